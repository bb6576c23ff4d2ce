/-
  The program's checker: the nearest node that made a name.
-/
import Derived.Test.YtggfbfjdiikaeaaGreatDoorChkC2
namespace Go.Proofs.YtggfbfjdiikaeaaGreatDoor
open Go.RowKit Go.Shelf

attribute [local go_sem] Oper.semAt_some

theorem fc_none {p : Nat → Bool} : ∀ {sc : List (List Nat)}, (∀ (j : Nat) S, sc[j]? = some S → S.any p = false) → sc.flatten.find? p = none
  | [], _ => rfl
  | S :: r, h => by
    rw [List.flatten_cons, List.find?_append, fc_none fun j S' hS => h (j + 1) S' (by simpa using hS)]
    have := h 0 S rfl
    rw [List.any_eq_false] at this
    rw [List.find?_eq_none.2 this]
    rfl
theorem fc_some {p : Nat → Bool} {d : Nat} {S : List Nat} (hd : S.find? p = some d) : ∀ {sc : List (List Nat)} {j : Nat}, sc[j]? = some S → (∀ (j' : Nat) S', j' < j → sc[j']? = some S' → S'.any p = false) → sc.flatten.find? p = some d
  | [], _, h, _ => by simp at h
  | S1 :: r, 0, h, _ => by
    simp only [List.getElem?_cons_zero, Option.some.injEq] at h
    subst h
    rw [List.flatten_cons, List.find?_append, hd]
    rfl
  | S1 :: r, j + 1, h, hn => by
    simp only [List.getElem?_cons_succ] at h
    have h1 := hn 0 S1 (by omega) rfl
    rw [List.any_eq_false] at h1
    rw [List.flatten_cons, List.find?_append, List.find?_eq_none.2 h1, fc_some hd h fun j' S' hj hS => hn (j' + 1) S' (by omega) (by simpa using hS)]
    rfl
theorem backC_mem {l : List Nat} {k : Nat} (p : Fin l.length) (h : l.length - 1 - p.1 < k) : p ∈ backC l k := by
  unfold backC
  rw [List.mem_iff_getElem?]
  refine ⟨l.length - 1 - p.1, ?_⟩
  have hp := p.2
  rw [List.getElem?_take, if_pos h, List.getElem?_reverse (by simp; omega)]
  simp only [List.length_finRange]
  rw [List.getElem?_eq_getElem (by simp; omega)]
  simp only [List.getElem_finRange, Option.some.injEq]
  apply Fin.ext
  simp
  omega
/-- A look-up of a name in a scope. -/
theorem look_run {w : World} {b n : Nat} {D : DataW Unit} {t : List UInt8} {T : ByteArray} (h : w.ownsMap Tryz.prog 9 (plainElem (H := Unit) Tryz.prog 3) b n D) (hkey : keyOf Tryz.prog 9 (.string T) = some (.string t)) : ∃ cx : Int, D.atKey (.string t) (.lit (.int .i64 0)) = .lit (.int .i64 cx) ∧ ∀ W' : World, W'.heap[b]? = w.heap[b]? → (Instr.lookup 114 (.map (some b)) (.string T) true).run Tryz.prog W' = .ok (.tuple #[.int .i64 cx, .bool (Maps.has D (.string t))]) W' := by
  have hz0 : plainElem (H := Unit) Tryz.prog 3 (.int .i64 0) = some (.lit (.int .i64 0), []) := plainElem_int Tryz.underlying3 (by decide)
  have key : ∀ W' : World, W'.heap[b]? = w.heap[b]? → ∃ cx : Int, (Instr.lookup 114 (.map (some b)) (.string T) true).run Tryz.prog W' = .ok (.tuple #[.int .i64 cx, .bool (Maps.has D (.string t))]) W' ∧ D.atKey (.string t) (.lit (.int .i64 0)) = .lit (.int .i64 cx) := fun W' hW => by
    obtain ⟨v, ps, hrun, hv⟩ := (ownsMap_keep h hW).look_ok keyStr Tryz.underlying114 (zeroIntC W') hz0 hkey
    obtain ⟨cx, rfl, hc, -⟩ := plainElem_int_inv Tryz.underlying3 hv
    exact ⟨cx, hrun, congrArg Prod.fst hc⟩
  obtain ⟨cx, -, h1⟩ := key w rfl
  refine ⟨cx, h1, fun W' hW => ?_⟩
  obtain ⟨cy, h2, h3⟩ := key W' hW
  have : cx = cy := by have := h1.symm.trans h3; simpa using this
  subst this
  exact h2
theorem box_in9 {W : World} {B : Nat} {v : Value} {t : TypeId} (h : W.heap[B]? = some (.cells #[v] t (0, 0))) : W.cell? ⟨B, 0, none⟩ = some v ∧ W.frozen? ⟨B, 0, none⟩ = false := by
  constructor <;> simp [World.cell?, World.frozen?, h]

theorem keeps_drew (B : Nat) (W : World) (q : Nat) : KeepsFrom B W (W.drewN q) := by
  have hB : Below W.heap.size W (W.drewN q) := below_drewN (Below.refl _ _)
  exact ⟨hB.size, fun k o _ hk _ => (hB.block k (heap_ltD hk)).trans hk⟩
section
variable {w0 w : World} {a : Option Addr} {c : Nat} {rows : List Row} {P : Nat} {v : Rk → Value} {ms : List Nat} {cm : Nat} {s : Cs}
set_option maxRecDepth 100000 in
set_option maxHeartbeats 3200000 in
theorem cfind_any (h : CPs w0 w a c rows P v ms cm s) (hne : s.sc ≠ []) (ht : TxtOk rows) {i : Nat} (hi : i < rows.length) (hlen : ms.length ≤ 100000) :
    Calls Tryz.prog 119 #[.pointer (some ⟨P, 0, none⟩), .int .i64 (i : Int)] w fun e w' => (match findC rows s.sc (rowA rows i).text with | some d => e = .returned (.int .i64 (d : Int)) | none => e = .panicked (badF (7, (rowA rows i).pos))) ∧ Below w.heap.size w w' := by
  obtain ⟨l, hl⟩ : ∃ l, l = ms.reverse := ⟨_, rfl⟩
  have hll : l.length = ms.length := by rw [hl, List.length_reverse]
  have hml : ms.length = s.sc.length := h.len
  obtain ⟨sb, qc, hsv, hsb, -, hsl⟩ := fam_block (h.fam.own .sc) (by show 0 < ms.length; rw [hml]; exact List.length_pos_iff.2 hne)
  have hsv' : v .sc = .slice (some ⟨sb, 0, none⟩) l.length qc := by rw [hll]; exact hsv
  obtain ⟨g, ka, kc, rfl, hnd⟩ := h.node hi
  have hkey := key_txt (ht i)
  obtain ⟨t, htt⟩ : ∃ t, t = (rowA rows i).text := ⟨_, rfl⟩
  rw [← htt] at hkey ⊢
  obtain ⟨T, hT⟩ : ∃ T : ByteArray, T = ⟨⟨t⟩⟩ := ⟨_, rfl⟩
  rw [← hT] at hkey
  obtain ⟨S, hS⟩ : ∃ S : Fin l.length → List Nat, S = fun p => s.sc.getD (l.length - 1 - p.1) [] := ⟨_, rfl⟩
  obtain ⟨pt, hpt⟩ : ∃ pt : Nat → Bool, pt = fun d => decide ((rowA rows d).text = t) := ⟨_, rfl⟩
  obtain ⟨f, hf⟩ : ∃ f : Fin l.length → Bool, f = fun p => (S p).any pt := ⟨_, rfl⟩
  have hSp : ∀ p : Fin l.length, s.sc[l.length - 1 - p.1]? = some (S p) := fun p => by
    have hp := p.2
    rw [hS]
    simp only [List.getD_eq_getElem?_getD]
    rw [List.getElem?_eq_getElem (by omega)]
    rfl
  have hMp : ∀ p : Fin l.length, mapS w rows (S p) (l.get p) := fun p => by
    have hp := p.2
    refine h.maps _ _ _ (hSp p) ?_
    have e : ms = l.reverse := by rw [hl, List.reverse_reverse]
    rw [e, List.getElem?_reverse (by omega), show l.length - 1 - (l.length - 1 - p.1) = p.1 by omega, List.getElem?_eq_getElem p.2]
    rfl
  have HLK : Hid (∀ p : Fin l.length, ∃ cx : Int, (∀ W' : World, Below w.heap.size w W' → (Instr.lookup 114 (.map (some (l.get p))) (.string T) true).run Tryz.prog W' = .ok (.tuple #[.int .i64 cx, .bool (f p)]) W') ∧ (f p = true → ∃ d : Nat, (S p).find? pt = some d ∧ cx = (d : Int))) := fun p => by
    obtain ⟨n, D, hn, hown, hhas, hat⟩ := hMp p
    obtain ⟨cx, h1, h2⟩ := look_run hown hkey
    have hfp : Maps.has D (.string t) = f p := by
      have h3 := hhas t
      rw [hf]
      simp only
      cases hb : (S p).any pt with
      | true =>
        rw [List.any_eq_true] at hb
        obtain ⟨d, hd, he⟩ := hb
        exact h3.2 ⟨d, hd, by rw [hpt] at he; simpa using he⟩
      | false =>
        cases hb2 : Maps.has D (.string t) with
        | false => rfl
        | true =>
          obtain ⟨d, hd, he⟩ := h3.1 hb2
          have := List.any_eq_false.1 hb d hd
          rw [hpt] at this
          simp [he] at this
    refine ⟨cx, fun W' hW => ?_, fun hft => ?_⟩
    · rw [← hfp]
      exact h2 W' (hW.block _ hown.lt)
    · rw [hf] at hft
      simp only at hft
      rw [List.any_eq_true] at hft
      obtain ⟨d0, hd0, he0⟩ := hft
      cases hfd : (S p).find? pt with
      | none =>
        rw [List.find?_eq_none] at hfd
        exact absurd he0 (hfd d0 hd0)
      | some d =>
        refine ⟨d, rfl, ?_⟩
        have hdm := List.mem_of_find?_eq_some hfd
        have hdt := List.find?_some hfd
        rw [hpt] at hdt
        have h5 := hat d hdm
        rw [show (rowA rows d).text = t by simpa using hdt, h1] at h5
        simpa using h5
  have HCL : Hid (∀ p : Fin l.length, w.cell? ⟨sb, p.1, none⟩ = some (.map (some (l.get p)))) := fun p => by
    refine h.fam.cell hsb ?_
    show (mV ms)[p.1]? = _
    unfold mV
    rw [← hl, List.getElem?_map, List.getElem?_eq_getElem p.2]
    rfl
  have HFN : Hid ((∀ p : Fin l.length, p ∈ backC l l.length → f p = false) → findC rows s.sc t = none) := fun hno => by
    unfold findC
    rw [← hpt]
    refine fc_none fun j S' hS' => ?_
    have hj : j < s.sc.length := by
      rcases Nat.lt_or_ge j s.sc.length with h1 | h1
      · exact h1
      · rw [List.getElem?_eq_none h1] at hS'; cases hS'
    have h1 := hno ⟨l.length - 1 - j, by omega⟩ (backC_mem _ (by show l.length - 1 - (l.length - 1 - j) < _; omega))
    have h2 := hSp ⟨l.length - 1 - j, by omega⟩
    rw [show l.length - 1 - (l.length - 1 - j) = j by omega, hS'] at h2
    rw [hf] at h1
    simp only at h1
    rw [Option.some.inj h2]
    exact h1
  have HFS : Hid (∀ (k : Nat) (p0 : List (Fin l.length)) (y : Fin l.length) (d : Nat), k ≤ l.length → p0 ++ [y] = backC l k → (∀ z, z ∈ p0 → f z = false) → (S y).find? pt = some d → findC rows s.sc t = some d) := fun k p0 y d hk he hno hfd => by
    have hlen2 : p0.length + 1 = k := by have := congrArg List.length he; simpa [backC_length _ _ hk] using this
    subst hlen2
    have hb := backC_succ (l := l) (k := p0.length) (p := ⟨l.length - 1 - p0.length, by omega⟩) (by omega) rfl
    rw [hb] at he
    obtain ⟨e1, e2⟩ := List.append_inj' he rfl
    simp only [List.cons.injEq, and_true] at e2
    unfold findC
    rw [← hpt]
    have hyv : l.length - 1 - y.1 = p0.length := by rw [e2]; show l.length - 1 - (l.length - 1 - p0.length) = _; omega
    have h2 := hSp y
    rw [hyv] at h2
    refine fc_some hfd h2 fun j' S' hj' hS' => ?_
    have hmem : (⟨l.length - 1 - j', by omega⟩ : Fin l.length) ∈ backC l p0.length := backC_mem _ (by show l.length - 1 - (l.length - 1 - j') < _; omega)
    rw [← e1] at hmem
    have h3 := hno _ hmem
    have h4 := hSp ⟨l.length - 1 - j', by omega⟩
    rw [show l.length - 1 - (l.length - 1 - j') = j' by omega, hS'] at h4
    rw [hf] at h3
    simp only at h3
    rw [Option.some.inj h4]
    exact h3
  have hl0 : l.length ≤ 100000 := by omega
  have c0 := h.c0
  have c2 := h.c2
  rw [hsv'] at c2
  have x3 := hnd.t
  rw [← htt, ← hT] at x3
  have HD := Hid.out (p := Hid _) (And.intro h hi)
  have hPl := h.lt
  have hi' : (i : Int) < (rows.length : Int) := by omega
  obtain ⟨R, hR⟩ : ∃ R, R = findC rows s.sc t := ⟨_, rfl⟩
  rw [← hR] at HFN HFS ⊢
  have hgl : g < w.heap.size := lt_of_cell x3
  clear hR hSp hMp hpt hS hf htt hT hnd hsv hsv' hsb h hi ht hl hll hml hlen hne
  refine (callsIn_wide (n := 5)).1 ?_
  refine callsIn_of_wp_marks Tryz.func119 rfl trivial ?_ rfl
  simp only [Tryz.ntmps119, List.size_toArray, List.length_cons, List.length_nil, Nat.reduceAdd, Nat.reduceSub, Array.replicate_succ, Array.replicate_zero, List.push_toArray, List.append_toArray, List.nil_append, List.cons_append]
  have c2u := fun o => cell_up c2 o
  have c2v := fun o o' => cell_up (c2u o) o'
  have c2x := fun o o' o'' => cell_up (c2v o o') o''
  gi_wp2
  refine ⟨trivial, (backC_in Fence.wide 4 trivial rfl (some ⟨sb, 0, none⟩) l.length qc _).mono ?_⟩
  rintro e w' ⟨rfl, rfl⟩
  gi_wp2
  obtain ⟨W0, hW0⟩ : ∃ W0, (((w.alloc (.cells #[.pointer (some ⟨P, 0, none⟩)] 90)).alloc (.cells #[.int .i64 (i : Int)] 3)).alloc (.cells #[.int .i64 0] 3)).alloc (.cells #[.slice (some ⟨sb, 0, none⟩) l.length qc] 92) = W0 := ⟨_, rfl⟩
  have hs0 : W0.heap.size = w.heap.size + 4 := by rw [← hW0]; simp
  have hB0 : W0.heap[w.heap.size]? = some (.cells #[.pointer (some ⟨P, 0, none⟩)] 90 (0, 0)) := by
    rw [← hW0]; exact box_later (box_later (box_later (heap_alloc_new w _) _) _) _
  have hB1 : W0.heap[w.heap.size + 1]? = some (.cells #[.int .i64 (i : Int)] 3 (0, 0)) := by
    rw [← hW0]
    have := heap_alloc_new (w.alloc (.cells #[.pointer (some ⟨P, 0, none⟩)] 90)) (.cells #[.int .i64 (i : Int)] 3)
    rw [World.size_alloc] at this
    exact box_later (box_later this _) _
  have hB2 : W0.heap[w.heap.size + 1 + 1]? = some (.cells #[.int .i64 0] 3 (0, 0)) := by
    rw [← hW0]
    have := heap_alloc_new ((w.alloc (.cells #[.pointer (some ⟨P, 0, none⟩)] 90)).alloc (.cells #[.int .i64 (i : Int)] 3)) (.cells #[.int .i64 0] 3)
    rw [World.size_alloc, World.size_alloc] at this
    exact box_later this _
  have hB3 : W0.heap[w.heap.size + 1 + 1 + 1]? = some (.cells #[.slice (some ⟨sb, 0, none⟩) l.length qc] 92 (0, 0)) := by
    rw [← hW0]
    have := heap_alloc_new (((w.alloc (.cells #[.pointer (some ⟨P, 0, none⟩)] 90)).alloc (.cells #[.int .i64 (i : Int)] 3)).alloc (.cells #[.int .i64 0] 3)) (.cells #[.slice (some ⟨sb, 0, none⟩) l.length qc] 92)
    rw [World.size_alloc, World.size_alloc, World.size_alloc] at this
    exact this
  have hbw : Below w.heap.size w W0 := by
    rw [← hW0]; exact ((((Below.refl _ w).alloc (Nat.le_refl _) _).alloc (by simp) _).alloc (by simp; omega) _).alloc (by simp; omega) _
  rw [hW0]
  have HCW : Hid (∀ W, Below W0.heap.size W0 W → Below w.heap.size w W) := fun W hW => hbw.trans (hW.mono (by omega))
  have HB0 := Hid.out (p := Hid _) hB0
  have HB1 := Hid.out (p := Hid _) hB1
  have HB2 := Hid.out (p := Hid _) hB2
  have hC0 := hbw.cell (p := ⟨P, 0, none⟩) hPl
  refine wpIn_rangeFunc_ownH (F := Fence.wide) (n := 5) rfl (by omega) (gf := 154) (lb := #[.pointer (some ⟨w.heap.size + 1 + 1 + 1, 0, none⟩)]) rfl trivial (enters_of Tryz.func154 (by kernel_rfl) rfl)
    (backC_stops Fence.wide 4 trivial rfl (by omega) (w.heap.size + 1 + 1 + 1) W0.heap.size (some ⟨sb, 0, none⟩) qc l hl0 W0 (box_in9 hB3).1 (by omega) (Nat.le_refl _) (fun p => ⟨sb, rfl, by omega, (hbw.cell (p := ⟨sb, p.1, none⟩) hsl).trans (HCL.out p)⟩))
    belowK_t (belowK_b (Nat.le_refl _)) (Below.refl _ _) (fun _ => rfl)
    (fun pre W => (∀ y, y ∈ pre → f y = false) ∧ Below W0.heap.size W0 W)
    (fun c pre W => (c = .ret ∧ ∃ p0 y, ∃ d : Nat, pre = p0 ++ [y] ∧ (S y).find? pt = some d ∧ (∀ z, z ∈ p0 → f z = false) ∧ W.cell? ⟨w.heap.size + 1 + 1, 0, none⟩ = some (.int .i64 (d : Int))) ∧ Below w.heap.size w W)
    (OwnFrom.and (ownFrom_pure _ _) (ownFrom_below (Nat.le_refl _) (Nat.le_refl _)))
    (fun c => OwnFrom.and (Own.from (fun s A B row hs hg hr => by obtain ⟨h1, p0, y, d, h2, h3, h4, h5⟩ := hs; exact ⟨h1, p0, y, d, h2, h3, h4, cell_kept h5 hg hr⟩) _) (ownFrom_below (Nat.le_refl _) (by omega)))
    ⟨by simp, Below.refl _ _⟩
    (fun y a' _ => a' = { tmps := #[.pointer (some ⟨P, 0, none⟩), .int .i64 (i : Int), .pointer (some ⟨w.heap.size, 0, none⟩), .pointer (some ⟨w.heap.size + 1, 0, none⟩), .pointer (some ⟨w.heap.size + 1 + 1, 0, none⟩), undef, .map (some (l.get y)), undef, undef, .pointer (some ⟨P, 0, none⟩), .pointer (some ⟨P, 0, none⟩), .pointer (some ⟨P, 2, none⟩), .slice (some ⟨sb, 0, none⟩) l.length qc,
          .func (.func 154) #[] #[.pointer (some ⟨w.heap.size + 1 + 1 + 1, 0, none⟩)], .int .i64 (y.1 : Int), .map (some (l.get y)), undef, undef, undef, undef, undef, undef, undef, undef, undef, undef, undef, undef, undef, undef, undef, undef, undef, undef, undef], defers := [] })
    (fun y a' => ownFrom_pure _ _) ?assign ?body ?done ?stop
  case assign =>
    rintro lp pre y W K ⟨h1, hbW⟩ hK
    clear hB0 hB1 hB2 hB3 hW0
    simp only [scV] at hK ⊢
    gi_wp2
    exact hK _ _ (KeepsFrom.refl _ _) (Below.refl _ _) ⟨h1, hbW⟩ rfl
  case body =>
    rintro lp pre y a' W hlp hlr ⟨h1, hbW⟩ rfl hN
    have hbW2 := HCW.out W hbW
    have d0 : W.cell? ⟨w.heap.size, 0, none⟩ = some (.pointer (some ⟨P, 0, none⟩)) := (hbW.cell (p := ⟨w.heap.size, 0, none⟩) (by show w.heap.size < _; omega)).trans (box_in9 HB0.out).1
    have d1 : W.cell? ⟨w.heap.size + 1, 0, none⟩ = some (.int .i64 (i : Int)) := (hbW.cell (p := ⟨w.heap.size + 1, 0, none⟩) (by show w.heap.size + 1 < _; omega)).trans (box_in9 HB1.out).1
    have d2 : W.cell? ⟨w.heap.size + 1 + 1, 0, none⟩ = some (.int .i64 0) := (hbW.cell (p := ⟨w.heap.size + 1 + 1, 0, none⟩) (by show w.heap.size + 1 + 1 < _; omega)).trans (box_in9 HB2.out).1
    have f2 : W.frozen? ⟨w.heap.size + 1 + 1, 0, none⟩ = false := (hbW.frozen (p := ⟨w.heap.size + 1 + 1, 0, none⟩) (by show w.heap.size + 1 + 1 < _; omega)).trans (box_in9 HB2.out).2
    have e0 : W.cell? ⟨P, 0, none⟩ = some (.slice (some ⟨g, 0, none⟩) rows.length c) := (hbW2.cell (p := ⟨P, 0, none⟩) hPl).trans c0
    have e3 : W.cell? ⟨g, i * 5 + 3, none⟩ = some (.string T) := (hbW2.cell (p := ⟨g, i * 5 + 3, none⟩) hgl).trans x3
    obtain ⟨cx, hrun0, hfy⟩ := HLK.out y
    have hrun := fun q => hrun0 (W.drewN q) (below_drewN hbW2)
    obtain ⟨mb, hmb⟩ : ∃ mb, l.get y = mb := ⟨_, rfl⟩
    rw [hmb] at hrun ⊢
    obtain ⟨fb, hfb⟩ : ∃ fb, f y = fb := ⟨_, rfl⟩
    rw [hfb] at hrun hfy
    have HFY := Hid.out (p := Hid _) hfy
    have HFB := Hid.out (p := Hid _) hfb
    have H1 := Hid.out (p := Hid _) h1
    clear hB0 hB1 hB2 hB3 hW0 hrun0 hfy hfb h1
    gi_wp2
    refine region_round (by kernel_rfl) (by kernel_rfl) (by kernel_rfl) ?_
    repeat (gi_big_quiet_step (fail))
    refine wpQuietIn_nil ?_
    intro _ hw'
    obtain ⟨nq, hw''⟩ := hw'
    subst hw''
    cases fb with
    | true =>
      obtain ⟨d, hd1, hd2⟩ := HFY.out rfl
      subst hd2
      have HD1 := Hid.out (p := Hid _) hd1
      clear hd1 HFY
      gi_wp2
      refine ⟨(keeps_drew _ W nq).trans ((KeepsOthers.setCell (W.drewN nq) _ _).from _), ⟨rfl, pre, y, d, rfl, HD1.out, H1.out, World.cell?_setCell_same' (W.drewN nq) _ _ (by show (W.cell? _).isSome = true; rw [d2]; rfl)⟩, ?_⟩
      exact (below_drewN hbW2).setCell (by show w.heap.size ≤ w.heap.size + 1 + 1; omega) _
    | false =>
      clear HFY
      gi_wp2
      refine ⟨keeps_drew _ _ _, below_drewN (Below.refl _ _), fun z hz => ?_, below_drewN hbW⟩
      rcases List.mem_append.1 hz with h | h
      · exact H1.out z h
      · simp only [List.mem_singleton] at h
        subst h
        exact HFB.out
  case done =>
    rintro D xs W hD hS9 ⟨h1, hbW⟩ hDD
    have hbW2 := HCW.out W hbW
    have d0 : W.cell? ⟨w.heap.size, 0, none⟩ = some (.pointer (some ⟨P, 0, none⟩)) := (hbW.cell (p := ⟨w.heap.size, 0, none⟩) (by show w.heap.size < _; omega)).trans (box_in9 HB0.out).1
    have d1 : W.cell? ⟨w.heap.size + 1, 0, none⟩ = some (.int .i64 (i : Int)) := (hbW.cell (p := ⟨w.heap.size + 1, 0, none⟩) (by show w.heap.size + 1 < _; omega)).trans (box_in9 HB1.out).1
    have hRn : R = none := HFN.out (by rw [← hS9]; exact h1)
    have HFL := Hid.out (p := Hid _) (cfault_any (HD.out.1.below hbW2) HD.out.2 7)
    have HBW := Hid.out (p := Hid _) hbW2
    have HDD := Hid.out (p := Hid _) hDD
    have hDw : w.heap.size ≤ D := by omega
    subst hRn
    clear hB0 hB1 hB2 hB3 hW0 hS9 h1 hbW hbw hDD hbW2 HFN HFS HLK
    gi_wp2
    refine ⟨trivial, CallsIn.mono (callsIn_wide.2 HFL.out) ?_⟩
    rintro e w5 ⟨rfl, hb5⟩
    have HB5 := Hid.out (p := Hid _) hb5
    clear hb5
    gi_wp2
    have hDD5 : w5.heap[D]? = some (.deferred (some [])) := (HB5.out.block D (heap_ltD HDD.out)).trans HDD.out
    refine ⟨by simp, .inl ⟨_, _, rfl, run_takeDeferred hDD5, ?_⟩⟩
    exact ⟨rfl, (HBW.out.trans (HB5.out.mono HBW.out.size)).trans (belowK_b (w := w) (Nat.le_refl _) w5 D _ _ hDw hDD5 rfl rfl)⟩
  case stop =>
    rintro D c9 pre W hD ⟨k, hk, hpre⟩ ⟨⟨rfl, p0, y, d, hp0, hy, hz, hcr⟩, hbW⟩ hDD
    have hRs : R = some d := HFS.out k p0 y d hk (hp0.symm.trans hpre) hz hy
    subst hRs
    clear hB0 hB1 hB2 hB3 hW0 HFN HFS HLK
    gi_wp2
    refine ⟨by simp, .inl ⟨_, _, rfl, run_takeDeferred hDD, ?_⟩⟩
    have hc5 := cell_kept hcr (grownBy_putObj' _ D (.deferred none)) (fun r e => by cases e; exact ⟨_, hDD, rfl⟩)
    refine ⟨.int .i64 (d : Int), ?_, rfl, hbW.trans (belowK_b (w := w) (Nat.le_refl _) W D _ _ (by omega) hDD rfl rfl)⟩
    simp [results, Tryz.f119, go_sem, hc5]
end

end Go.Proofs.YtggfbfjdiikaeaaGreatDoor
