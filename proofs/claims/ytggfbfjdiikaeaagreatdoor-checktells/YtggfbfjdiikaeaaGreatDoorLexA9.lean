/-
  The document looks at every tree; its Of.
  The document's Of.
  The program's one token.
  What the program's Scan does with what is given up: the deferred closure.
-/
import Derived.Test.YtggfbfjdiikaeaaGreatDoorChkD9
import Derived.Test.YtggfbfjdiikaeaaGreatDoorSynH7
import Derived.Test.YtggfbfjdiikaeaaGreatDoorLexA8
import Derived.Test.YtggfbfjdiikaeaaGreatDoorPlain
import Derived.Recover
namespace Go.Proofs.YtggfbfjdiikaeaaGreatDoor
section
open Go.RowKit

theorem rnode_all {rows : List Row} : ∀ N x b, ndSize x ≤ N → Wk x → NdC rows x b
  | 0, x, _, hN, _ => by have := size_pos x; omega
  | N + 1, .mk k n p t ks, b, hN, hw => by
    obtain ⟨h1, h2⟩ := wk_kids hw
    have hsz : ndSize (.mk k n p t ks) = ndsSize ks + 1 := by rw [ndSize]
    have hk : ∀ j y, ks[j]? = some y → NdC rows y (b + ndsSize (ks.take j)) := fun j y hy => by
      have h3 := nds_take9 hy
      exact rnode_all N y _ (by omega) (h1 y (List.mem_of_getElem? hy))
    by_cases h5 : k = 5
    · subst h5
      exact rnode_block hk
    · exact rnode_other h5 h2 hk
theorem rnode_prog {ks : List Nd} (hw : ∀ x, x ∈ ks → WfG x ∨ WfT x) : NdC (rowsP ks) (.mk 1 0 0 [] ks) 0 :=
  rnode_other (by decide) (fun h => by omega) fun j y hy => rnode_all _ y _ (Nat.le_refl _) (Or.inr (hw y (List.mem_of_getElem? hy)))
theorem wfp_mem9 {ks : List Nd} (h : WfP ks) : ∀ x, x ∈ ks → WfG x ∨ WfT x := by
  obtain ⟨gs, ts, rfl, h1, h2⟩ := h
  intro x hx
  rcases List.mem_append.1 hx with hx | hx
  · exact Or.inl (h1 x hx)
  · exact Or.inr (h2 x hx)
theorem fat_prog (ks : List Nd) : FAt (rowsP ks) (.mk 1 0 0 [] ks) 0 := ⟨[], [], by simp [rowsP, flat], rfl⟩
theorem ckN_prog (ks : List Nd) (s : Cs) : ckN (rowsP ks) (.mk 1 0 0 [] ks) 0 s = ckNs (rowsP ks) false ks 0 s := by
  rw [ckN, if_neg (by decide)]
  show (ckNs (rowsP ks) false ks 0 s).and _ = _
  cases ckNs (rowsP ks) false ks 0 s with
  | error f => rfl
  | ok s' => rfl
section
variable {w0 w w' : World} {a : Option Addr} {c : Nat} {rows : List Row} {P : Nat} {v : Rc → Value} {s : Cs} {f : Int × Int}
/-- One more node whose name is of nothing yet. -/
theorem CDs.one (h : CDs w0 w a c rows P v s f) (x : Int) (hn : s.us.length ≤ 100000) : ∃ va vc g cap w3, v .us = .slice va s.us.length vc ∧ (AppS #[22, 22] 22 #[.slice va s.us.length vc, .slice (some ⟨w.heap.size, 0, none⟩) 1 1]).run Tryz.prog (w.alloc (.cells #[.int .i64 x] 3)) = .ok (.slice (some ⟨g, 0, none⟩) (s.us.length + 1) cap) w3 ∧
    (∃ u, w3.cell? ⟨P, 1, none⟩ = some u) ∧ w3.frozen? ⟨P, 1, none⟩ = false ∧ (∃ v', CDs w0 (w3.setCell ⟨P, 1, none⟩ (.slice (some ⟨g, 0, none⟩) (s.us.length + 1) cap)) a c rows P v' { s with us := s.us ++ [x] } f) ∧ KpD w (w3.setCell ⟨P, 1, none⟩ (.slice (some ⟨g, 0, none⟩) (s.us.length + 1) cap)) := by
  obtain ⟨va, vc, g, cap, w3, e1, e2, e3⟩ := h.app (r := .us) (by decide) x hn
  have hc := e3.cells 1 _ rfl
  have hst := e3.store (s' := { s with us := s.us ++ [x] }) 1 rfl (fun q hq => ?_) ?_ (fun q hq hqb => ?_) ?_
  · exact ⟨va, vc, g, cap, w3, e1, e2, ⟨_, hc.1⟩, hc.2, ⟨_, hst.1⟩, hst.2⟩
  · cases q <;> first | exact absurd rfl hq | rfl
  · show (s.us ++ [x]).length = s.us.length + 1
    simp
  · cases q <;> first | exact absurd rfl hqb | exact absurd rfl hq | rfl
  · show iV (s.us ++ [x]) = iV s.us ++ _
    simp [iV]
end
/-- What Of leaves of a text that is read. -/
def OfQ (ks : List Nd) (e : Ending) (w' : World) : Prop := ∃ (a : Option Addr) (c P : Nat), match checkC ks with
  | .error g => g.1 ≠ 0 ∧ e = .returned (.tuple #[.pointer (some ⟨P, 0, none⟩), .agg #[.int .i64 g.1, .int .i64 0, .int .i64 g.2]])
  | .ok us => e = .returned (.tuple #[.pointer (some ⟨P, 0, none⟩), .agg #[.int .i64 0, .int .i64 0, .int .i64 0]]) ∧ OfS w' a c (rowsP ks) P us
/-- Nodes stay where one fault's box alone turns. -/
theorem NodesIn.keep {w w' : World} {B b : Nat} {v : Value} {rows : List Row} {cs : Array Value} (h : NodesIn w B v rows) (hx : w.heap[b]? = some (.cells cs 25)) (hk : ∀ g, g < w.heap.size → g ≠ b → w'.heap[g]? = w.heap[g]?) : NodesIn w' B v rows := by
  obtain ⟨ys, h1, h2, h3⟩ := h
  refine ⟨ys, fam_keeps h1 fun g hg => hk g (h1.lt g hg).2 (fun e => own_apart h1 hx (by decide) (by rw [hg, e])), h2, fun y hy => fam_keeps (h3 y hy) fun g hg => hk g ((h3 y hy).lt g hg).2 (fun e => own_apart (h3 y hy) hx (by decide) (by rw [hg, e]))⟩

set_option maxRecDepth 100000 in
set_option maxHeartbeats 3200000 in
theorem rof_bad (s : ByteArray) (w : World) (c a : Int) (hs : parseT s.data.toList = ([], (c, a))) (hc0 : c ≠ 0) :
    Calls Tryz.prog 6 #[.string s] w fun e w' => e = .returned (.tuple #[.pointer none, .agg #[.int .i64 c, .int .i64 0, .int .i64 a]]) ∧ Below w.heap.size w w' := by
  have hc : (c != 0) = true := by simpa using hc0
  have HS := Hid.out (p := Hid _) hs
  clear hs hc0
  go_enter Tryz.func6, Tryz.ntmps6
  go_wp2_with fail
  refine Calls.mono (rparse_any s _) ?_
  rintro e w1 ⟨⟨v, rfl, hown⟩, hb1⟩
  rw [HS.out] at hown ⊢
  obtain ⟨la, lc, rfl, -⟩ := hown.read
  have hx := (hb1.block w.heap.size (by simp)).trans (heap_alloc_new w _)
  have p0 := box_cell (i := 0) hx rfl
  have p1 := box_cell (i := 1) hx rfl
  have p2 := box_cell (i := 2) hx rfl
  have pf := fun j => box_free (i := j) hx
  have hl1 : w.heap.size < w1.heap.size := Nat.lt_of_lt_of_le (by simp) hb1.size
  have HB1 : Hid (Below w.heap.size w w1) := ((Below.refl w.heap.size w).alloc (Nat.le_refl _) _).trans (hb1.mono (by simp))
  clear hx hown hb1
  simp only at p0 p1 p2 ⊢
  go_wp2_with fail
  go_region
  go_wp2_with fail
  refine bodyPost_ret (v := .tuple #[.pointer none, .agg #[.int .i64 c, .int .i64 0, .int .i64 a]]) (by simp [results, Tryz.results6, go_sem, p0, p1, p2, hl1]) rfl ⟨rfl, ?_⟩
  exact ((((HB1.out.setCell (Nat.le_refl _) _).setCell (Nat.le_refl _) _).setCell (Nat.le_refl _) _).alloc (by have := HB1.out.size; simp [World.setCell]; omega) _).drew
end

section
open Go.RowKit

theorem made_ints9 (n : Nat) : (madeCells #[Value.int .i64 0] n).toList = List.replicate n (.int .i64 0) := by
  apply List.ext_getElem?
  intro i
  by_cases h : i < n
  · simp [madeCells, h, Nat.mod_one]
  · simp [madeCells, h]
theorem ct_start (w : World) : ∃ w1, (Instr.makeSlice 22 (.int .i64 30) (.int .i64 30)).run Tryz.prog w = .ok (.slice (some ⟨w.heap.size, 0, none⟩) 30 30) w1 ∧ w1.ownsRow w.heap.size 3 1 (.slice (some ⟨w.heap.size, 0, none⟩) 30 30) 30 (List.replicate 30 (.int .i64 0)) ∧ Below w.heap.size w w1 := by
  obtain ⟨i, hi, hz0, hz1, hz2⟩ := info_is infoIntC
  obtain ⟨w1, r1, r2, r3⟩ := run_makeSlice_full (P := Tryz.prog) w w.heap.size 22 3 i (.int .i64 0) 1 Tryz.underlying22 hi hz0 hz1 .i64 .i64 30 (by omega) (by rw [hz2]; omega) (by unfold maxLen; omega) (Nat.le_refl _)
  have hlow : Below w.heap.size w w1 := (Below.refl _ _).grown r3 (Nat.le_refl _) (fun k hk => by cases hk)
  refine ⟨w1, by simpa using r1, ?_, hlow⟩
  rw [Nat.mul_one] at r2
  have e : (Value.int .i64 0).cells = #[Value.int .i64 0] := rfl
  rw [e, made_ints9] at r2
  exact r2
/-- The state at the beginning. -/
def csN (j : Nat) : Cs := ⟨[[]], fun _ => 0, List.replicate j (-1)⟩
/-- .. in memory. -/
theorem CDs.first {w0 w1 w2 : World} {a : Option Addr} {c g : Nat} {rows : List Row} (hr : NdsR w0 a rows) (h1 : w1.heap[w0.heap.size]? = some (.cells #[.int .i64 0] 3)) (hb1 : Below w0.heap.size w0 w1) (h2 : w2.ownsRow w1.heap.size 3 1 (.slice (some ⟨g, 0, none⟩) 30 30) 30 (List.replicate 30 (.int .i64 0))) (hb2 : Below w1.heap.size w1 w2) :
    ∃ v, CDs w0 (w2.alloc (.cells #[.slice a rows.length c, .slice none 0 0, .slice none 0 0, .slice (some ⟨w0.heap.size, 0, none⟩) 1 1, .slice (some ⟨g, 0, none⟩) 30 30, .int .i64 0, .int .i64 0, .int .i64 0] 34)) a c rows w2.heap.size v (csN 0) (0, 0) := by
  have hg := (h2.lt g rfl)
  have hl1 := heap_ltD h1
  have hb3 := (Below.refl w2.heap.size w2).alloc (Nat.le_refl _) (.cells #[.slice a rows.length c, .slice none 0 0, .slice none 0 0, .slice (some ⟨w0.heap.size, 0, none⟩) 1 1, .slice (some ⟨g, 0, none⟩) 30 30, .int .i64 0, .int .i64 0, .int .i64 0] 34)
  have hs2 := hb2.size
  refine ⟨fun r => match r with
    | .box => boxV w2.heap.size
    | .us => .slice none 0 0
    | .th => .slice none 0 0
    | .bl => .slice (some ⟨w0.heap.size, 0, none⟩) 1 1
    | .ct => .slice (some ⟨g, 0, none⟩) 30 30, ⟨⟨fun r => ?_, fun r q b h3 h4 => ?_⟩, rfl, (hb1.trans (hb2.mono hb1.size)).trans (hb3.mono (Nat.le_trans hb1.size hs2)), hr⟩⟩
  · cases r with
    | box => exact fam_box (Nat.le_trans hb1.size hs2) (heap_alloc_new _ _)
    | us => exact World.ownsRow_nil _ _ _ _
    | th => exact World.ownsRow_nil _ _ _ _
    | bl => exact fam_box (Nat.le_refl _) ((hb3.block _ (Nat.lt_of_lt_of_le hl1 hs2)).trans ((hb2.block _ hl1).trans h1))
    | ct => exact own_low (fam_keeps h2 fun k hk => hb3.block k (h2.lt k hk).2) hb1.size
  · cases r <;> cases q <;> simp only [Value.ownBlock, Option.some.injEq, reduceCtorEq] at h3 h4 <;> first | rfl | omega
theorem csN_ok {rows : List Row} {j : Nat} (h : j = rows.length) : CsOk rows (csN j) := by
  refine ⟨fun S hS d hd => ?_, fun S hS => ?_, by simp [csN], by simp [csN, h], fun k => Nat.zero_le _, Nat.zero_le _, Nat.zero_le _⟩
  · obtain rfl : S = [] := by simpa [csN] using hS
    cases hd
  · obtain rfl : S = [] := by simpa [csN] using hS
    exact List.Pairwise.nil
theorem ckC_err {ks : List Nd} {f : Int × Int} (h : ckNs (rowsP ks) false ks 0 (csN (rowsP ks).length) = .error f) : checkC ks = .error f := by
  unfold checkC
  have h' : ckNs (rowsP ks) false ks 0 (cs0 (rowsP ks).length) = .error f := h
  rw [h']
theorem ckC_ok {ks : List Nd} {s : Cs} (h : ckNs (rowsP ks) false ks 0 (csN (rowsP ks).length) = .ok s) : checkC ks = if s.cn 4 = 0 then .error (1, 0) else .ok s.us := by
  unfold checkC
  have h' : ckNs (rowsP ks) false ks 0 (cs0 (rowsP ks).length) = .ok s := h
  rw [h']
attribute [local go_sem ↓] appS_eq
set_option maxRecDepth 100000 in
set_option maxHeartbeats 6400000 in
theorem rof_good (s : ByteArray) (w : World) {ks : List Nd} (hs : parseT s.data.toList = (rowsP ks, (0, 0))) (hw : WfP ks) (hsz : ndsSize ks + 1 ≤ 600) :
    Calls Tryz.prog 6 #[.string s] w fun e w' => OfQ ks e w' ∧ Below w.heap.size w w' := by
  have HS := Hid.out (p := Hid _) hs
  have HW := Hid.out (p := Hid _) (And.intro hw hsz)
  clear hs hw hsz
  go_enter Tryz.func6, Tryz.ntmps6
  go_wp2_with fail
  refine Calls.mono (rparse_any s _) ?_
  rintro e w1 ⟨⟨v, rfl, hown⟩, hb1⟩
  rw [HS.out] at hown ⊢
  obtain ⟨la, lc, rfl, hr1⟩ := hown.read
  simp only at hr1 ⊢
  have hx := (hb1.block w.heap.size (by simp)).trans (heap_alloc_new w _)
  have hl1 : w.heap.size < w1.heap.size := Nat.lt_of_lt_of_le (by simp) hb1.size
  have h01 : Below w.heap.size w w1 := ((Below.refl w.heap.size w).alloc (Nat.le_refl _) _).trans (hb1.mono (by simp))
  have HNI : Hid (NodesIn w1 (w.alloc (.cells #[.int .i64 0, .int .i64 0, .int .i64 0] 25)).heap.size (.slice la (rowsP ks).length lc) (rowsP ks) ∧ w1.heap[w.heap.size]? = some (.cells #[.int .i64 0, .int .i64 0, .int .i64 0] 25)) := ⟨hown, hx⟩
  obtain ⟨W0, hW0⟩ : ∃ W0, W0 = w1.alloc (.cells #[.int .i64 0, .int .i64 0, .int .i64 0] 25) := ⟨_, rfl⟩
  have h1W : Below w1.heap.size w1 W0 := by rw [hW0]; exact (Below.refl _ _).alloc (Nat.le_refl _) _
  have hsW : W0.heap.size = w1.heap.size + 1 := by rw [hW0]; simp
  have hxW := (h1W.block w.heap.size hl1).trans hx
  have h0W := h01.trans (h1W.mono h01.size)
  obtain ⟨W1, hW1⟩ : ∃ W1, W1 = W0.alloc (.cells #[.int .i64 0] 3) := ⟨_, rfl⟩
  have hb1 : Below W0.heap.size W0 W1 := by rw [hW1]; exact (Below.refl _ _).alloc (Nat.le_refl _) _
  obtain ⟨W2, r1, r2, hb2⟩ := ct_start W1
  obtain ⟨v0, hD0⟩ := CDs.first (c := lc) (hr1.below h1W) (by rw [hW1]; exact heap_alloc_new _ _) hb1 r2 hb2
  have hg1 : W1.heap.size = W0.heap.size + 1 := by rw [hW1]; simp
  rw [hg1] at r1 hD0
  rw [hsW] at r1 hD0
  obtain ⟨W3, hW3⟩ : ∃ W3, W3 = W2.alloc (.cells #[.slice la (rowsP ks).length lc, .slice none 0 0, .slice none 0 0, .slice (some ⟨w1.heap.size + 1, 0, none⟩) 1 1, .slice (some ⟨w1.heap.size + 1 + 1, 0, none⟩) 30 30, .int .i64 0, .int .i64 0, .int .i64 0] 34) := ⟨_, rfl⟩
  rw [← hW3] at hD0
  have hrl : (rowsP ks).length = ndsSize ks + 1 := by unfold rowsP; rw [List.length_append, flats_len]; rfl
  obtain ⟨n, hn⟩ : ∃ n, n = (rowsP ks).length := ⟨_, rfl⟩
  have hn6 : n ≤ 600 ∧ 1 ≤ n := by have := HW.out.2; omega
  have HN := Hid.out (p := Hid _) hn
  have HI0 : Hid (∃ v', CDs W0 W3 la lc (rowsP ks) W2.heap.size v' (csN 0) (0, 0)) := ⟨v0, hD0⟩
  have H1W := Hid.out (p := Hid _) h1W
  have HB : Hid (Below w.heap.size w W0 ∧ W0.heap[w.heap.size]? = some (.cells #[.int .i64 0, .int .i64 0, .int .i64 0] 25) ∧ w.heap.size < W0.heap.size ∧ Below W0.heap.size W0 W2) := ⟨h0W, hxW, by omega, hb1.trans (hb2.mono hb1.size)⟩
  have HW3 := Hid.out (p := Hid _) hW3
  rw [hW1, hW0] at r1
  rw [← hn] at HW3
  clear hown hx hr1 h01 h1W hsW hxW h0W hb1 r2 hb2 hD0 hg1 hW3 hW1 hW0 hrl hn
  rw [← HN.out]
  go_wp2_with fail
  rw [← HW3.out]
  clear r1 HW3
  go_loopw [7] (fun x wr => ∃ j : Nat, j ≤ n ∧ x = .int .i64 j ∧ Hid (∃ v', CDs W0 wr la lc (rowsP ks) W2.heap.size v' (csN j) (0, 0))) (fun x _ => n - (intOf x).toNat)
  case atStart => exact ⟨0, Nat.zero_le _, rfl, HI0⟩
  case round =>
    obtain ⟨j, hj, rfl, HJ⟩ := hrel
    clear HI0
    obtain ⟨vj, hJ⟩ := HJ.out
    by_cases hlt : j < n
    · have hlen : (csN j).us.length = j := by simp [csN]
      obtain ⟨va, vc, g9, cap, w3, q1, q2, ⟨u, q3⟩, q4, ⟨v9, q5⟩, -⟩ := hJ.one (-1) (by omega)
      have c1 := hJ.c1
      rw [hlen] at q1 q2 q5
      rw [q1] at c1
      have hcs : { csN j with us := (csN j).us ++ [-1] } = csN (j + 1) := by
        unfold csN
        simp only [Cs.mk.injEq, true_and]
        rw [List.replicate_succ']
      rw [hcs] at q5
      have HQ : Hid (∃ v', CDs W0 (w3.setCell ⟨W2.heap.size, 1, none⟩ (.slice (some ⟨g9, 0, none⟩) (j + 1) cap)) la lc (rowsP ks) W2.heap.size v' (csN (j + 1)) (0, 0)) := ⟨v9, q5⟩
      have hlt' : (j : Int) < (n : Int) := by omega
      clear hJ q1 q5 hcs hlen HJ
      go_wp2_with fail
      go_roundw
      case rel => exact ⟨j + 1, by omega, by go_num, HQ⟩
      case measure => simp [intOf]; omega
    · obtain rfl : j = n := by omega
      have hok : CsOk (rowsP ks) (csN j) := csN_ok HN.out
      have hsz := HW.out.2
      have hnd := rnode_prog (wfp_mem9 HW.out.1) W0 wr la lc W2.heap.size vj (csN j) (fat_prog ks) hJ hok (by show 1 + _ ≤ _; rw [ndSize]; omega) (by show 0 + _ ≤ _; rw [ndSize]; omega)
      rw [ckN_prog] at hnd
      have hpl : (0 + ndSize (.mk 1 0 0 [] ks) - 1 : Nat) = j - 1 := by
        have h1 : (rowsP ks).length = ndsSize ks + 1 := by unfold rowsP; rw [List.length_append, flats_len]; rfl
        rw [ndSize, HN.out, h1]
        omega
      rw [hpl] at hnd
      have HX := Hid.out (p := Hid _) hnd
      have hc1 : ((j : Int) - 1) = ((j - 1 : Nat) : Int) := by omega
      have HFN : Hid (∀ (W W' : World) (P : Nat) (v' : Rc → Value) (s' : Cs) (f : Int × Int) (us : List Int), CDs W0 W la lc (rowsP ks) P v' s' f → s'.us = us → (∀ g, g ≠ w.heap.size → W'.heap[g]? = W.heap[g]?) → OfS W' la lc (rowsP ks) P us) := fun W W' P v' s' f us hD hus hW => by
        have hne : P ≠ w.heap.size := by have := hD.le; have := HB.out.2.2.1; omega
        have hni : NodesIn W' (w.alloc (.cells #[.int .i64 0, .int .i64 0, .int .i64 0] 25)).heap.size (.slice la (rowsP ks).length lc) (rowsP ks) := HNI.out.1.keep HNI.out.2 fun g hg hgb => (hW g hgb).trans ((hD.low.block g (Nat.lt_of_lt_of_le hg H1W.out.size)).trans (H1W.out.block g hg))
        obtain ⟨a', c', e', hr'⟩ := hni.read
        simp only [Value.slice.injEq, true_and] at e'
        obtain ⟨rfl, rfl⟩ := e'
        refine ⟨hr', (World.cell?_of_block (hW P hne)).trans hD.c0, ?_⟩
        obtain ⟨ua, uc, huv⟩ := fam_form (hD.fam.own .us)
        have huv' : v' .us = .slice ua s'.us.length uc := huv
        have c1 := hD.c1
        rw [huv', hus] at c1
        refine ⟨ua, uc, (World.cell?_of_block (hW P hne)).trans c1, fun q hq => ?_⟩
        obtain ⟨ub, uc', e1, e2, e3, -⟩ := fam_block (hD.fam.own .us) (by show 0 < s'.us.length; rw [hus]; omega)
        rw [huv] at e1
        simp only [Value.slice.injEq] at e1
        refine ⟨ub, 0, e1.1, ?_⟩
        have hub : ub ≠ w.heap.size := by have := HB.out.2.2.1; omega
        rw [Nat.zero_add]
        refine (World.cell?_of_block (hW ub hub)).trans (hD.fam.cell e2 (iV_at ?_))
        rw [hus]
        simp only [List.getD_eq_getElem?_getD, List.getElem?_eq_getElem hq, Option.getD_some]
      have HCK : Hid (∀ R, ckNs (rowsP ks) false ks 0 (csN j) = R → ckNs (rowsP ks) false ks 0 (csN (rowsP ks).length) = R) := fun R h => by rw [← HN.out]; exact h
      clear hJ hok hnd hpl hsz HJ
      cases hck : ckNs (rowsP ks) false ks 0 (csN j) with
      | error f =>
        rw [hck] at HX
        have HE := Hid.out (p := Hid _) (ckC_err (HCK.out _ hck))
        clear hck
        go_wp2_with fail
        refine Calls.mono HX.out ?_
        rintro e w2 ⟨rfl, ⟨hf0, v', s', hD'⟩, -⟩
        have c5 := hD'.c5
        have c6 := hD'.c6
        have c7 := hD'.c7
        have hfb : (f.1 == 0) = false := by simpa using hf0
        have hx := (hD'.low.block w.heap.size HB.out.2.2.1).trans HB.out.2.1
        have p0 := box_cell (i := 0) hx rfl
        have p1 := box_cell (i := 1) hx rfl
        have p2 := box_cell (i := 2) hx rfl
        have pf := fun j => box_free (i := j) hx
        have hPl := hD'.lt
        have HF0 := Hid.out (p := Hid _) hf0
        have HB2 : Hid (Below w.heap.size w w2) := HB.out.1.trans (hD'.low.mono HB.out.1.size)
        obtain ⟨f1, f2⟩ := f
        simp only at c5 c7 hfb
        clear hD' hx hf0
        go_wp2_with fail
        go_region
        go_wp2_with fail
        refine bodyPost_ret (v := .tuple #[.pointer (some ⟨W2.heap.size, 0, none⟩), .agg #[.int .i64 f1, .int .i64 0, .int .i64 f2]]) (by simp [results, Tryz.results6, go_sem, p0, p1, p2]) rfl ⟨⟨la, lc, W2.heap.size, ?_⟩, ?_⟩
        · rw [HE.out]
          exact ⟨HF0.out, rfl⟩
        · exact (((HB2.out.setCell (Nat.le_refl _) _).setCell (Nat.le_refl _) _).setCell (Nat.le_refl _) _).drew
      | ok s' =>
        rw [hck] at HX
        have hcc := ckC_ok (HCK.out _ hck)
        clear hck
        go_wp2_with fail
        refine Calls.mono HX.out ?_
        rintro e w2 ⟨rfl, ⟨v', hD'⟩, -⟩
        have c5 := hD'.c5
        have c6 := hD'.c6
        have c7 := hD'.c7
        have cf := hD'.fz
        obtain ⟨cb, cc, hcv, hcb, -, hcl⟩ := fam_block (hD'.fam.own .ct) (by show 0 < 30; omega)
        have hcv' : v' .ct = .slice (some ⟨cb, 0, none⟩) 30 cc := hcv
        have c4 := hD'.c4
        rw [hcv'] at c4
        have y4 : w2.cell? ⟨cb, 4, none⟩ = some (.int .i64 (s'.cn 4 : Int)) := hD'.fam.cell hcb (iV_at (ctL_at s' (by decide)))
        obtain ⟨q, hq⟩ : ∃ q : Nat, s'.cn 4 = q := ⟨_, rfl⟩
        rw [hq] at y4 hcc
        simp only at c5 c7
        have HB2 : Hid (Below w.heap.size w w2) := HB.out.1.trans (hD'.low.mono HB.out.1.size)
        have hPl := hD'.lt
        have hPne : ¬ W2.heap.size = w.heap.size := by have := hD'.le; have := HB.out.2.2.1; omega
        have hPne2 : ¬ w.heap.size = W2.heap.size := fun e => hPne e.symm
        by_cases h4 : q = 0
        · rw [if_pos h4] at hcc
          have hb4 : ((q : Int) == 0) = true := by rw [h4]; rfl
          have hD5 := (hD'.setF 1 0).1
          have d5 := hD5.c5
          have d6 := hD5.c6
          have d7 := hD5.c7
          simp only at d5 d7
          have hx := (hD5.low.block w.heap.size HB.out.2.2.1).trans HB.out.2.1
          have p0 := box_cell (i := 0) hx rfl
          have p1 := box_cell (i := 1) hx rfl
          have p2 := box_cell (i := 2) hx rfl
          have pf := fun j => box_free (i := j) hx
          have HE := Hid.out (p := Hid _) hcc
          have HB5 : Hid (Below w.heap.size w (((w2.setCell ⟨W2.heap.size, 5, none⟩ (.int .i64 1)).setCell ⟨W2.heap.size, 6, none⟩ (.int .i64 0)).setCell ⟨W2.heap.size, 7, none⟩ (.int .i64 0))) := HB.out.1.trans (hD5.low.mono HB.out.1.size)
          clear hD' hD5 hx hcc hcv hcv' hcb h4 hq
          go_wp2_with fail
          go_region
          go_wp2_with fail
          refine bodyPost_ret (v := .tuple #[.pointer (some ⟨W2.heap.size, 0, none⟩), .agg #[.int .i64 1, .int .i64 0, .int .i64 0]]) (by simp [results, Tryz.results6, go_sem, p0, p1, p2]) rfl ⟨⟨la, lc, W2.heap.size, ?_⟩, ?_⟩
          · rw [HE.out]
            exact ⟨by decide, rfl⟩
          · exact (((HB5.out.setCell (Nat.le_refl _) _).setCell (Nat.le_refl _) _).setCell (Nat.le_refl _) _).drew
        · rw [if_neg h4] at hcc
          have hb4 : ((q : Int) == 0) = false := by simpa using h4
          have hx := (hD'.low.block w.heap.size HB.out.2.2.1).trans HB.out.2.1
          have p0 := box_cell (i := 0) hx rfl
          have p1 := box_cell (i := 1) hx rfl
          have p2 := box_cell (i := 2) hx rfl
          have pf := fun j => box_free (i := j) hx
          have HE := Hid.out (p := Hid _) hcc
          have HOF : Hid (OfS ((((w2.setCell ⟨w.heap.size, 0, none⟩ (.int .i64 0)).setCell ⟨w.heap.size, 1, none⟩ (.int .i64 0)).setCell ⟨w.heap.size, 2, none⟩ (.int .i64 0)).drew) la lc (rowsP ks) W2.heap.size s'.us) := HFN.out w2 _ _ v' s' (0, 0) s'.us hD' rfl fun g hg => (Below.heap_setCell _ _ _ _ hg).trans ((Below.heap_setCell _ _ _ _ hg).trans (Below.heap_setCell _ _ _ _ hg))
          clear hD' hx hcc hcv hcv' hcb h4 hq
          go_wp2_with fail
          go_region
          go_wp2_with fail
          refine bodyPost_ret (v := .tuple #[.pointer (some ⟨W2.heap.size, 0, none⟩), .agg #[.int .i64 0, .int .i64 0, .int .i64 0]]) (by simp [results, Tryz.results6, go_sem, p0, p1, p2]) rfl ⟨⟨la, lc, W2.heap.size, ?_⟩, ?_⟩
          · rw [HE.out]
            exact ⟨rfl, HOF.out⟩
          · exact (((HB2.out.setCell (Nat.le_refl _) _).setCell (Nat.le_refl _) _).setCell (Nat.le_refl _) _).drew
end

section
open Go.RowKit

set_option maxRecDepth 100000 in
set_option maxHeartbeats 1600000 in
theorem token_bad (sb : Nat) (s : ByteArray) (i : Nat) (hi : i < s.size) (hc : canBe s[i] = false) (w : World) (h : Sc w sb s i) :
    Calls Tryz.prog 80 #[.pointer (some ⟨sb, 0, none⟩)] w fun e w' => e = .panicked (badB i) ∧ w.grownBy w' (some sb) := by
  have hA : Below w.heap.size w (w.alloc (.cells #[.int .i64 0, .int .i64 0, .int .i64 0, .string ⟨#[]⟩] 98)) := (Below.refl _ _).alloc (Nat.le_refl _) _
  have hSA := h.below hA
  go_enter Tryz.func80, Tryz.ntmps80
  go_wp2_with (first | (go_at_call 104; refine (ask_no sb s i hi hc _ hSA).mono ?_; rintro e w' ⟨rfl, hb⟩))
  exact ⟨rfl, rfl, grown_then (grown_of_below hA _) (grown_of_below hb _)⟩

set_option maxRecDepth 100000 in
set_option maxHeartbeats 1600000 in
theorem token_any (sb : Nat) (s : ByteArray) (hs : s.size ≤ 4000) (i : Nat) (hi : i < s.size) (hc : canBe s[i] = true) (w : World) (h : Sc w sb s i) (hE : LEnv w) (hsb : 6 ≤ sb) :
    Calls Tryz.prog 80 #[.pointer (some ⟨sb, 0, none⟩)] w fun e w' => TokQ w sb s i e w' := by
  have hA : Below w.heap.size w (w.alloc (.cells #[.int .i64 0, .int .i64 0, .int .i64 0, .string ⟨#[]⟩] 98)) := (Below.refl _ _).alloc (Nat.le_refl _) _
  have HA : Hid (Below w.heap.size w (w.alloc (.cells #[.int .i64 0, .int .i64 0, .int .i64 0, .string ⟨#[]⟩] 98)) ∧ Sc (w.alloc (.cells #[.int .i64 0, .int .i64 0, .int .i64 0, .string ⟨#[]⟩] 98)) sb s i ∧ True) := ⟨hA, h.below hA, trivial⟩
  obtain ⟨V, hV⟩ : ∃ V, w.alloc (.cells #[.int .i64 0, .int .i64 0, .int .i64 0, .string ⟨#[]⟩] 98) = V := ⟨_, rfl⟩
  have HVE := Hid.out (p := Hid _) hV
  have HV : Hid (Below w.heap.size w V ∧ Sc V sb s i ∧ V.heap[w.heap.size]? = some (.cells #[.int .i64 0, .int .i64 0, .int .i64 0, .string ⟨#[]⟩] 98) ∧ w.heap.size < V.heap.size ∧ w.heap.size ≠ sb) := by
    show _ ∧ _
    rw [← hV]
    exact ⟨hA, h.below hA, heap_alloc_new _ _, by simp, by have := h.lt; omega⟩
  have HEN : Hid (LEnv V) := by
    show LEnv V
    rw [← hV]; exact hE.below hA
  have HT : Hid (∀ e w', (w.grownBy w' (some sb) ∧ match oneL (s.data.toList.drop i) with
    | none => e = .panicked (badT i)
    | some (k, v, m) => e = .returned (.agg #[.int .i64 k, .int .i64 v, .int .i64 i, .string (s.extract i (i + m))]) ∧ Sc w' sb s (i + m)) → TokQ w sb s i e w') := fun _ _ h => h
  clear hA hV hE h
  cases hl : isLet s[i] with
  | true =>
    go_enter Tryz.func80, Tryz.ntmps80
    go_wp2_with (first | (go_at_call 104; refine (ask_yes sb s i hi hc _ HA.out.2.1).mono ?_; rintro e w' ⟨rfl, m, rfl⟩))
    rw [HVE.out]
    have h0 := HV.out.2.1.c0
    have h1 := HV.out.2.1.c1
    go_quiet (fail)
    clear h0 h1
    go_wp2_with (first | (go_at_call 105; refine (plet_any s[i] _).mono ?_; rintro e w' ⟨rfl, rfl⟩; rw [hl]))
    obtain ⟨X, hX⟩ : ∃ X, X = V.drewN (m + nq) := ⟨_, rfl⟩
    have hbX : Below V.heap.size V X := by rw [hX]; exact below_drewN (Below.refl _ _)
    try rw [World.drewN_drewN]
    rw [← hX]
    refine (lexName_any sb s hs i hi hl X (HV.out.2.1.below hbX)).mono ?_
    rintro e w2 ⟨hg2, hq⟩
    have hg3 : w.grownBy w2 (some sb) := grown_then (grown_of_below HV.out.1 _) (grown_then (grown_of_below hbX _) hg2)
    have hx2 : w2.heap[w.heap.size]? = some (.cells #[.int .i64 0, .int .i64 0, .int .i64 0, .string ⟨#[]⟩] 98) := (hg2.block _ (Nat.lt_of_lt_of_le HV.out.2.2.2.1 hbX.size) (by simp; exact HV.out.2.2.2.2)).trans ((hbX.block _ HV.out.2.2.2.1).trans HV.out.2.2.1)
    have hT := HT.out
    cases ho : oneL (s.data.toList.drop i) with
    | none =>
      rw [ho] at hq hT
      obtain rfl := hq
      exact ⟨rfl, hT _ _ ⟨hg3, rfl⟩⟩
    | some y =>
      obtain ⟨kk, vv, mm⟩ := y
      rw [ho] at hq hT
      obtain ⟨rfl, hS⟩ := hq
      have p0 := box_cell (i := 0) hx2 rfl
      have p1 := box_cell (i := 1) hx2 rfl
      have p2 := box_cell (i := 2) hx2 rfl
      have p3 := box_cell (i := 3) hx2 rfl
      have pf := fun j => box_free (i := j) hx2
      have HS2 : Hid (Sc w2 sb s (i + mm) ∧ w.grownBy w2 (some sb)) := ⟨hS, hg3⟩
      have HT2 := Hid.out (p := Hid _) hT
      clear hx2 hS hg3 hT hg2 hX hbX ho
      go_wp2
      refine bodyPost_ret (v := .agg #[.int .i64 kk, .int .i64 vv, .int .i64 i, .string (s.extract i (i + mm))]) (by simp [results, Tryz.results80, go_sem, p0, p1, p2, p3]) rfl (HT2.out _ _ ⟨?_, rfl, ?_⟩)
      · exact grown_high (grown_high (grown_high (grown_high HS2.out.2 (Nat.le_refl _) _) (Nat.le_refl _) _) (Nat.le_refl _) _) (Nat.le_refl _) _
      · exact (((HS2.out.1.far HV.out.2.2.2.2 _).far HV.out.2.2.2.2 _).far HV.out.2.2.2.2 _).far HV.out.2.2.2.2 _
  | false =>
    cases hd : isDig s[i] with
    | true =>
      go_enter Tryz.func80, Tryz.ntmps80
      go_wp2_with (first | (go_at_call 104; refine (ask_yes sb s i hi hc _ HA.out.2.1).mono ?_; rintro e w' ⟨rfl, m, rfl⟩))
      rw [HVE.out]
      have h0 := HV.out.2.1.c0
      have h1 := HV.out.2.1.c1
      go_quiet (fail)
      clear h0 h1
      go_wp2_with (first | (go_at_call 105; refine (plet_any s[i] _).mono ?_; rintro e w' ⟨rfl, rfl⟩; rw [hl]) | (go_at_call 107; refine (pdig_any s[i] _).mono ?_; rintro e w' ⟨rfl, rfl⟩; rw [hd]))
      obtain ⟨X, hX⟩ : ∃ X, X = V.drewN (m + nq) := ⟨_, rfl⟩
      have hbX : Below V.heap.size V X := by rw [hX]; exact below_drewN (Below.refl _ _)
      try rw [World.drewN_drewN]
      rw [← hX]
      refine (lexNumber_any sb s hs i hi hl hd X (HV.out.2.1.below hbX) (HEN.out.below hbX) hsb).mono ?_
      rintro e w2 ⟨hg2, hq⟩
      have hg3 : w.grownBy w2 (some sb) := grown_then (grown_of_below HV.out.1 _) (grown_then (grown_of_below hbX _) hg2)
      have hx2 : w2.heap[w.heap.size]? = some (.cells #[.int .i64 0, .int .i64 0, .int .i64 0, .string ⟨#[]⟩] 98) := (hg2.block _ (Nat.lt_of_lt_of_le HV.out.2.2.2.1 hbX.size) (by simp; exact HV.out.2.2.2.2)).trans ((hbX.block _ HV.out.2.2.2.1).trans HV.out.2.2.1)
      have hT := HT.out
      cases ho : oneL (s.data.toList.drop i) with
      | none =>
        rw [ho] at hq hT
        obtain rfl := hq
        exact ⟨rfl, hT _ _ ⟨hg3, rfl⟩⟩
      | some y =>
        obtain ⟨kk, vv, mm⟩ := y
        rw [ho] at hq hT
        obtain ⟨rfl, hS⟩ := hq
        have p0 := box_cell (i := 0) hx2 rfl
        have p1 := box_cell (i := 1) hx2 rfl
        have p2 := box_cell (i := 2) hx2 rfl
        have p3 := box_cell (i := 3) hx2 rfl
        have pf := fun j => box_free (i := j) hx2
        have HS2 : Hid (Sc w2 sb s (i + mm) ∧ w.grownBy w2 (some sb)) := ⟨hS, hg3⟩
        have HT2 := Hid.out (p := Hid _) hT
        clear hx2 hS hg3 hT hg2 hX hbX ho
        go_wp2
        refine bodyPost_ret (v := .agg #[.int .i64 kk, .int .i64 vv, .int .i64 i, .string (s.extract i (i + mm))]) (by simp [results, Tryz.results80, go_sem, p0, p1, p2, p3]) rfl (HT2.out _ _ ⟨?_, rfl, ?_⟩)
        · exact grown_high (grown_high (grown_high (grown_high HS2.out.2 (Nat.le_refl _) _) (Nat.le_refl _) _) (Nat.le_refl _) _) (Nat.le_refl _) _
        · exact (((HS2.out.1.far HV.out.2.2.2.2 _).far HV.out.2.2.2.2 _).far HV.out.2.2.2.2 _).far HV.out.2.2.2.2 _
    | false =>
      go_enter Tryz.func80, Tryz.ntmps80
      go_wp2_with (first | (go_at_call 104; refine (ask_yes sb s i hi hc _ HA.out.2.1).mono ?_; rintro e w' ⟨rfl, m, rfl⟩))
      rw [HVE.out]
      have h0 := HV.out.2.1.c0
      have h1 := HV.out.2.1.c1
      go_quiet (fail)
      clear h0 h1
      go_wp2_with (first | (go_at_call 105; refine (plet_any s[i] _).mono ?_; rintro e w' ⟨rfl, rfl⟩; rw [hl]) | (go_at_call 107; refine (pdig_any s[i] _).mono ?_; rintro e w' ⟨rfl, rfl⟩; rw [hd]))
      obtain ⟨X, hX⟩ : ∃ X, X = V.drewN (m + nq) := ⟨_, rfl⟩
      have hbX : Below V.heap.size V X := by rw [hX]; exact below_drewN (Below.refl _ _)
      try rw [World.drewN_drewN]
      rw [← hX]
      refine (lexSign_any sb s hs i hi hl hd X (HV.out.2.1.below hbX) (HEN.out.below hbX)).mono ?_
      rintro e w2 ⟨hg2, hq⟩
      have hg3 : w.grownBy w2 (some sb) := grown_then (grown_of_below HV.out.1 _) (grown_then (grown_of_below hbX _) hg2)
      have hx2 : w2.heap[w.heap.size]? = some (.cells #[.int .i64 0, .int .i64 0, .int .i64 0, .string ⟨#[]⟩] 98) := (hg2.block _ (Nat.lt_of_lt_of_le HV.out.2.2.2.1 hbX.size) (by simp; exact HV.out.2.2.2.2)).trans ((hbX.block _ HV.out.2.2.2.1).trans HV.out.2.2.1)
      have hT := HT.out
      cases ho : oneL (s.data.toList.drop i) with
      | none =>
        rw [ho] at hq hT
        obtain rfl := hq
        exact ⟨rfl, hT _ _ ⟨hg3, rfl⟩⟩
      | some y =>
        obtain ⟨kk, vv, mm⟩ := y
        rw [ho] at hq hT
        obtain ⟨rfl, hS⟩ := hq
        have p0 := box_cell (i := 0) hx2 rfl
        have p1 := box_cell (i := 1) hx2 rfl
        have p2 := box_cell (i := 2) hx2 rfl
        have p3 := box_cell (i := 3) hx2 rfl
        have pf := fun j => box_free (i := j) hx2
        have HS2 : Hid (Sc w2 sb s (i + mm) ∧ w.grownBy w2 (some sb)) := ⟨hS, hg3⟩
        have HT2 := Hid.out (p := Hid _) hT
        clear hx2 hS hg3 hT hg2 hX hbX ho
        go_wp2
        refine bodyPost_ret (v := .agg #[.int .i64 kk, .int .i64 vv, .int .i64 i, .string (s.extract i (i + mm))]) (by simp [results, Tryz.results80, go_sem, p0, p1, p2, p3]) rfl (HT2.out _ _ ⟨?_, rfl, ?_⟩)
        · exact grown_high (grown_high (grown_high (grown_high HS2.out.2 (Nat.le_refl _) _) (Nat.le_refl _) _) (Nat.le_refl _) _) (Nat.le_refl _) _
        · exact (((HS2.out.1.far HV.out.2.2.2.2 _).far HV.out.2.2.2.2 _).far HV.out.2.2.2.2 _).far HV.out.2.2.2.2 _
end

section
open Go.RowKit

section
variable {P : Program} {id d : Nat} {ty : TypeId} {pos : String} {y : Code} {Q : Exit → Act → List Frame → World → Prop} {a : Act} {c : Frame} {cs : List Frame} {w : World}
/-- A call of recover ahead of other code, in a frame that panics. -/
theorem wpS_recover {v : Value} {older : List PanicEntry} (hu : c.mode = .panicking ({ v := v, recovered := false } :: older))
    (h : y.wpS P Q (a.put (some d) v) ({ c with mode := .panicking ({ v := v, recovered := true } :: older) } :: cs) w) :
    (Code.seq (Code.region id #[{ dst := some d, op := .call { callee := .builtin .recover, args := #[], argTypes := #[] }, type := ty, pos := pos, after := #[], guard := none }] false) y).wpS P Q a (c :: cs) w := by
  apply wpS_seq
  apply wpS_region
  simp [wpOpsS, go_sem, recoverD, hu, Exit.thenS]
  exact h
/-- .. in one that returns. -/
theorem wpS_recover_no (hu : c.mode = .returning) (h : y.wpS P Q (a.put (some d) .nilIface) (c :: cs) w) :
    (Code.seq (Code.region id #[{ dst := some d, op := .call { callee := .builtin .recover, args := #[], argTypes := #[] }, type := ty, pos := pos, after := #[], guard := none }] false) y).wpS P Q a (c :: cs) w := by
  apply wpS_seq
  apply wpS_region
  simp [wpOpsS, go_sem, recoverD, hu, Exit.thenS]
  exact h
end

set_option maxRecDepth 100000 in
set_option maxHeartbeats 400000 in
theorem catch_idle (p q : Addr) (w : World) :
    CallsD Tryz.prog 78 #[.pointer (some p), .pointer (some q)] .returning w fun e u' w' => e = .returned (.tuple #[]) ∧ u' = .returning ∧ w' = w := by
  refine callsD_of_wpS Tryz.func78 rfl fun c₀ cs hu => ?_
  simp only [Tryz.ntmps78, List.size_toArray, List.length_cons, List.length_nil, Nat.reduceAdd, Nat.reduceSub, Array.replicate_succ, Array.replicate_zero, List.push_toArray, List.append_toArray, List.nil_append, List.cons_append]
  refine wpS_recover_no hu ?_
  refine wpS_of_wp ?_
  simp only [Act.put, Array.setIfInBounds, List.size_toArray, List.length_cons, List.length_nil, Nat.reduceAdd, Nat.reduceLT, dite_true, List.set_toArray, List.set_cons_succ, List.set_cons_zero]
  go_wp2_with fail
  exact ⟨rfl, .returning, by cases c₀; simp_all, _, results_none rfl _ _ _, rfl, rfl, rfl⟩

theorem ta_byte (k : Nat) (w : World) : (Instr.typeAssert (.iface 124 (.int .i64 (k : Int))) 20 124 true).run Tryz.prog w = .ok (.tuple #[.int .i64 (k : Int), .bool true]) w := by kernel_rfl
theorem ta_other (k : Nat) (w : World) : (Instr.typeAssert (.iface 125 (.int .i64 (k : Int))) 20 124 true).run Tryz.prog w = .ok (.tuple #[.int .i64 0, .bool false]) w := by kernel_rfl
theorem ta_token (k : Nat) (w : World) : (Instr.typeAssert (.iface 125 (.int .i64 (k : Int))) 20 125 true).run Tryz.prog w = .ok (.tuple #[.int .i64 (k : Int), .bool true]) w := by kernel_rfl

/-- Two variables: a slice, and a fault. -/
structure Vars (w : World) (tb fb : Nat) (v a b c : Value) : Prop where
  t0 : w.cell? ⟨tb, 0, none⟩ = some v
  f0 : w.cell? ⟨fb, 0, none⟩ = some a
  f1 : w.cell? ⟨fb, 1, none⟩ = some b
  f2 : w.cell? ⟨fb, 2, none⟩ = some c
  tz : w.frozen? ⟨tb, 0, none⟩ = false
  fz : ∀ i, w.frozen? ⟨fb, i, none⟩ = false
  ne : tb ≠ fb

set_option maxRecDepth 100000 in
set_option maxHeartbeats 800000 in
theorem catch_byte (tb fb k : Nat) (w : World) (v a b c : Value) (h : Vars w tb fb v a b c) :
    CallsD Tryz.prog 78 #[.pointer (some ⟨tb, 0, none⟩), .pointer (some ⟨fb, 0, none⟩)] (.panicking (badB k)) w fun e u' w' => e = .returned (.tuple #[]) ∧ u' = .panicking [{ v := .iface 124 (.int .i64 (k : Int)), recovered := true }] ∧ w' = (((w.setCell ⟨tb, 0, none⟩ nilV).setCell ⟨fb, 0, none⟩ (.int .i64 4)).setCell ⟨fb, 1, none⟩ (.int .i64 0)).setCell ⟨fb, 2, none⟩ (.int .i64 (k : Int)) := by
  have ta := ta_byte k
  have t0 := h.t0
  have f0 := h.f0
  have f1 := h.f1
  have f2 := h.f2
  have tz := h.tz
  have fz := h.fz
  have hn1 : ¬ tb = fb := h.ne
  have hn2 : ¬ fb = tb := fun e => h.ne e.symm
  refine callsD_of_wpS Tryz.func78 rfl fun c₀ cs hu => ?_
  simp only [Tryz.ntmps78, List.size_toArray, List.length_cons, List.length_nil, Nat.reduceAdd, Nat.reduceSub, Array.replicate_succ, Array.replicate_zero, List.push_toArray, List.append_toArray, List.nil_append, List.cons_append]
  refine wpS_recover hu ?_
  refine wpS_of_wp ?_
  simp only [Act.put, Array.setIfInBounds, List.size_toArray, List.length_cons, List.length_nil, Nat.reduceAdd, Nat.reduceLT, dite_true, List.set_toArray, List.set_cons_succ, List.set_cons_zero]
  go_wp2_with fail
  exact ⟨rfl, _, rfl, _, results_none rfl _ _ _, rfl, rfl, rfl⟩

set_option maxRecDepth 100000 in
set_option maxHeartbeats 800000 in
theorem catch_token (tb fb k : Nat) (w : World) (v a b c : Value) (h : Vars w tb fb v a b c) :
    CallsD Tryz.prog 78 #[.pointer (some ⟨tb, 0, none⟩), .pointer (some ⟨fb, 0, none⟩)] (.panicking (badT k)) w fun e u' w' => e = .returned (.tuple #[]) ∧ u' = .panicking [{ v := .iface 125 (.int .i64 (k : Int)), recovered := true }] ∧ w' = (((w.setCell ⟨tb, 0, none⟩ nilV).setCell ⟨fb, 0, none⟩ (.int .i64 5)).setCell ⟨fb, 1, none⟩ (.int .i64 0)).setCell ⟨fb, 2, none⟩ (.int .i64 (k : Int)) := by
  have ta := ta_other k
  have ta2 := ta_token k
  have t0 := h.t0
  have f0 := h.f0
  have f1 := h.f1
  have f2 := h.f2
  have tz := h.tz
  have fz := h.fz
  have hn1 : ¬ tb = fb := h.ne
  have hn2 : ¬ fb = tb := fun e => h.ne e.symm
  refine callsD_of_wpS Tryz.func78 rfl fun c₀ cs hu => ?_
  simp only [Tryz.ntmps78, List.size_toArray, List.length_cons, List.length_nil, Nat.reduceAdd, Nat.reduceSub, Array.replicate_succ, Array.replicate_zero, List.push_toArray, List.append_toArray, List.nil_append, List.cons_append]
  refine wpS_recover hu ?_
  refine wpS_of_wp ?_
  simp only [Act.put, Array.setIfInBounds, List.size_toArray, List.length_cons, List.length_nil, Nat.reduceAdd, Nat.reduceLT, dite_true, List.set_toArray, List.set_cons_succ, List.set_cons_zero]
  go_wp2_with fail
  exact ⟨rfl, _, rfl, _, results_none rfl _ _ _, rfl, rfl, rfl⟩
end

end Go.Proofs.YtggfbfjdiikaeaaGreatDoor
