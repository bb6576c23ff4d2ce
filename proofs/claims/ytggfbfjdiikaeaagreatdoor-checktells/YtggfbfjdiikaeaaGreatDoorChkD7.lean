/-
  The program's checker: a scope is opened, and left.
  The document's node: a block.
  The program's checker: blocks; lists of nodes.
-/
import Derived.Test.YtggfbfjdiikaeaaGreatDoorChkC7
import Derived.Defers
import Derived.Recover
import Derived.Test.YtggfbfjdiikaeaaGreatDoorChkD5
namespace Go.Proofs.YtggfbfjdiikaeaaGreatDoor
section
open Go.RowKit

theorem infoScp : (Tryz.prog.info? 114).map (fun i => (i.zero, i.size, i.bytes)) = some (some (.map none), 1, 8) := by kernel_rfl
set_option maxRecDepth 100000 in
set_option maxHeartbeats 1600000 in
theorem cleave_d (w : World) (P L cap : Nat) (sa : Option Addr) (u : FrameMode) (c2 : w.cell? ⟨P, 2, none⟩ = some (.slice sa (L + 1) cap)) (f2 : w.frozen? ⟨P, 2, none⟩ = false) (hcap : L + 1 ≤ cap) (hL : L ≤ 100000) :
    CallsD Tryz.prog 118 #[.pointer (some ⟨P, 0, none⟩)] u w fun e u' w' => u' = u ∧ (e = .returned (.tuple #[]) ∧ w' = (w.drew).setCell ⟨P, 2, none⟩ (.slice sa L cap)) := by
  have hc1 : ((L + 1 : Nat) : Int) - 1 = (L : Int) := by omega
  have hslc : (L : Int) ≤ (cap : Int) := by omega
  have hwr : IntKind.i64.wrap (L : Int) = (L : Int) := by rw [IntKind.wrap_i64]; omega
  go_enter_d Tryz.func118, Tryz.ntmps118
  go_wp2_with fail
  refine region_tail 14 (by kernel_rfl) (by kernel_rfl) ?_
  simp only [List.take_succ_cons, List.take_zero, List.drop_succ_cons, List.drop_zero]
  repeat still_step
  refine wpStill_nil ?_
  go_wp2_with fail
  go_end0
  exact ⟨rfl, rfl⟩
section
variable {w0 w w' : World} {a : Option Addr} {c : Nat} {rows : List Row} {P : Nat} {v : Rk → Value} {ms : List Nat} {cm : Nat} {s : Cs}
/-- A scope is opened. -/
theorem CPs.opens (h : CPs w0 w a c rows P v ms cm s) (hn : ms.length ≤ 100000) : ∃ va vc g cap w3, v .sc = .slice va ms.length vc ∧ (AppS #[92, 92] 92 #[.slice va ms.length vc, .slice (some ⟨w.heap.size + 1, 0, none⟩) 1 1]).run Tryz.prog ((w.alloc (.map #[] 0)).alloc (.cells #[.map (some w.heap.size)] 114)) = .ok (.slice (some ⟨g, 0, none⟩) (ms.length + 1) cap) w3 ∧
    (∃ u, w3.cell? ⟨P, 2, none⟩ = some u) ∧ w3.frozen? ⟨P, 2, none⟩ = false ∧ (∃ v', CPs w0 (w3.setCell ⟨P, 2, none⟩ (.slice (some ⟨g, 0, none⟩) (ms.length + 1) cap)) a c rows P v' (w.heap.size :: ms) cm { s with sc := [] :: s.sc }) ∧ KpC w (w3.setCell ⟨P, 2, none⟩ (.slice (some ⟨g, 0, none⟩) (ms.length + 1) cap)) := by
  have ho : w.ownsRow w0.heap.size 114 1 (v .sc) ms.length (mV ms) := h.fam.own .sc
  obtain ⟨va, vc, hv⟩ := fam_form ho
  have hA := (Below.refl w.heap.size w).alloc (Nat.le_refl _) (.map #[] 0)
  obtain ⟨g, cap, w3, r1, r2, r3, r4⟩ := app_row Tryz.underlying92 infoScp rfl (by decide) ho hA h.low.size 1 #[.map (some w.heap.size)] rfl (by intro u hu; simp at hu; subst hu; rfl) (by decide) (by omega) (by decide)
  rw [hv, World.size_alloc] at r1
  have hB := hA.alloc (by simp) (.cells #[.map (some w.heap.size)] 114)
  have hfam := (h.fam.below hB).grow (r := .sc) (H := (w.alloc (.map #[] 0)).heap.size + 1) (m := ms.length + 1) (c := cap) (g := g) (n1 := upd (kN s ms) .sc (ms.length + 1)) (xs1 := upd (kX a rows.length c v ms cm s) .sc (mV ms ++ [.map (some w.heap.size)])) r2 r3 r4 (by simp) (upd_self _ _ _) (fun q hq => upd_ne _ _ hq) (upd_self _ _ _) (fun q hq => upd_ne _ _ hq)
  have hb : Rk.box ≠ Rk.sc := by decide
  have hlt : (upd v .sc (.slice (some ⟨g, 0, none⟩) (ms.length + 1) cap) .box).ownBlock = some P := by rw [upd_ne _ _ hb]; exact h.blk
  have hc2 : w3.cell? ⟨P, 2, none⟩ = some (v .sc) := hfam.cell hlt (by rw [upd_ne _ _ hb]; rfl)
  have hf2 : w3.frozen? ⟨P, 2, none⟩ = false := hfam.frozen hlt 2
  have hP3 : ∃ cur, w3.heap[P]? = some (.cells cur 94 (0, 0)) := by
    have h2 := (hfam.own .box).2
    rw [upd_ne _ _ hb, upd_ne _ _ hb, upd_ne _ _ hb, h.box] at h2
    rcases h2 with ⟨h0, _⟩ | ⟨g', cap', cur, hv', _, hh, _⟩
    · cases h0
    · simp only [Value.slice.injEq, Option.some.injEq, Addr.mk.injEq, and_true] at hv'
      rw [← hv'.1] at hh
      exact ⟨cur, hh⟩
  obtain ⟨cur3, hP3⟩ := hP3
  have hmapk : ∀ b : Nat, (∃ es cl, (w.alloc (.map #[] 0)).heap[b]? = some (Obj.map es cl)) → (w3.setCell ⟨P, 2, none⟩ (.slice (some ⟨g, 0, none⟩) (ms.length + 1) cap)).heap[b]? = (w.alloc (.map #[] 0)).heap[b]? := fun b ⟨es, cl, hbm⟩ => by
    have hbl := heap_ltD hbm
    have e1 : ((w.alloc (.map #[] 0)).alloc (.cells #[.map (some w.heap.size)] 114)).heap[b]? = (w.alloc (.map #[] 0)).heap[b]? := Below.heap_alloc _ _ _ hbl
    have e2 : w3.heap[b]? = ((w.alloc (.map #[] 0)).alloc (.cells #[.map (some w.heap.size)] 114)).heap[b]? := r3.block b (heap_ltD (e1.trans hbm)) (fun he => by
      obtain ⟨cur, hcur⟩ := h.cells he.symm
      have h5 := (hA.block b (heap_ltD hcur)).trans hcur
      rw [hbm] at h5
      cases h5)
    refine (Below.heap_setCell _ _ _ _ (fun he => ?_)).trans (e2.trans e1)
    have he' : b = P := he
    rw [he'] at e1 e2 hbm
    rw [e2.trans (e1.trans hbm)] at hP3
    cases hP3
  have hold : ∀ b, b ∈ cm :: ms → (w3.setCell ⟨P, 2, none⟩ (.slice (some ⟨g, 0, none⟩) (ms.length + 1) cap)).heap[b]? = w.heap[b]? := fun b hbm => by
    obtain ⟨es, cl, e⟩ := h.mapLt hbm
    have e1 := hA.block b (heap_ltD e)
    exact (hmapk b ⟨es, cl, e1.trans e⟩).trans e1
  refine ⟨va, vc, g, cap, w3, hv, r1, ⟨_, hc2⟩, hf2, ⟨upd v .sc (.slice (some ⟨g, 0, none⟩) (ms.length + 1) cap), ⟨hfam.put hlt 2 _ (fun q => ?_) ?_ (fun q hq => ?_), ?_, ?_, h.nds, by simp [h.len], fun j S b h1 h2 => ?_, h.cnt.keep (hold cm (List.mem_cons_self ..)), fun b hbm => ?_, ?_⟩⟩, ?_⟩
  · cases q
    · rfl
    · rfl
    · rw [upd_self]; simp [kN]
  · rw [upd_ne _ _ hb]; rfl
  · cases q
    · exact absurd rfl hq
    · rfl
    · rw [upd_self]
      show mV (w.heap.size :: ms) = _
      unfold mV
      simp
  · rw [upd_ne _ _ hb]; exact h.box
  · refine Below.setCell (p := ⟨P, 2, none⟩) ?_ h.le _
    exact (h.low.trans (hB.mono h.low.size)).grown r3 (by have := h.low.size; simp; omega) (fun k hk => (ho.lt k hk).1)
  · cases j with
    | zero =>
      have e1 : S = [] := by simpa using h1.symm
      have e2 : b = w.heap.size := by simpa using h2.symm
      subst e1 e2
      have hmade := World.ownsMap_made (H := Unit) w Tryz.prog 9 (plainElem (H := Unit) Tryz.prog 3)
      refine ⟨0, .map [], Nat.le_refl _, ownsMap_keep hmade (hmapk _ ⟨_, _, World.alloc_heap_new w _⟩), fun t => ?_, fun d hd => by cases hd⟩
      constructor
      · intro h9
        simp [Maps.has] at h9
      · rintro ⟨d, hd, _⟩
        cases hd
    | succ j =>
      simp only [List.getElem?_cons_succ] at h1 h2
      exact (h.maps j S b h1 h2).keep (hold b (List.mem_cons_of_mem _ (List.mem_of_getElem? h2)))
  · rcases List.mem_cons.1 hbm with rfl | hbm
    · exact h.ge _ (List.mem_cons_self ..)
    · rcases List.mem_cons.1 hbm with rfl | hbm
      · exact h.low.size
      · exact h.ge _ (List.mem_cons_of_mem _ hbm)
  · have hne : ∀ b, b ∈ cm :: ms → b ≠ w.heap.size := fun b hbm e => by
      obtain ⟨es, cl, e9⟩ := h.mapLt hbm
      have := heap_ltD e9
      omega
    have hnod := List.nodup_cons.1 h.nod
    refine List.nodup_cons.2 ⟨fun hm => ?_, List.nodup_cons.2 ⟨fun hm => hne _ (List.mem_cons_of_mem _ hm) rfl, hnod.2⟩⟩
    rcases List.mem_cons.1 hm with e | hm
    · exact hne cm (List.mem_cons_self ..) e
    · exact hnod.1 hm
  · refine ((KpC.of_below hB).trans ⟨fun k o e hbd => r3.block k (heap_ltD e) (fun he => hbd ?_)⟩).trans ⟨fun k o e hbd => Below.heap_setCell _ _ _ _ (fun he => hbd ?_)⟩
    · obtain ⟨cur, hcur⟩ := h.cells he.symm
      have h5 := (hB.block k (heap_ltD hcur)).trans hcur
      rw [e] at h5
      rw [Option.some.inj h5]
      exact Or.inl ⟨cur, (0, 0), Or.inr (Or.inr rfl)⟩
    · have he' : k = P := he
      rw [he', hP3] at e
      rw [← Option.some.inj e]
      exact Or.inl ⟨cur3, (0, 0), Or.inr (Or.inl rfl)⟩
end
end

section
open Go.RowKit

section
variable {rows : List Row}
attribute [local go_sem ↓] appS_eq
set_option maxRecDepth 100000 in
set_option maxHeartbeats 6400000 in
theorem rnode_block {n p : Int} {t : List UInt8} {ks : List Nd} {b : Nat} (hks : ∀ j y, ks[j]? = some y → NdC rows y (b + ndsSize (ks.take j))) : NdC rows (.mk 5 n p t ks) b := by
  intro w0 w a c P v s hf h hok hb1 hb2
  have hlt := hf.lt
  have hrow := hf.rowA
  rw [ndSize] at hb1 hb2 hlt ⊢
  rw [show b + (ndsSize ks + 1) - 1 = b + ndsSize ks by omega]
  obtain ⟨i, hi⟩ : ∃ i, i = b + ndsSize ks := ⟨_, rfl⟩
  rw [← hi] at hrow ⊢
  have hil : i < rows.length := by omega
  obtain ⟨g, ka, kc, hag, hnd⟩ := h.nds.get i hil
  subst hag
  have hnd' : NdR w0 g i ⟨5, n, p, t, idxs b ks⟩ ka kc := by rw [← hrow]; exact hnd
  have hn := hnd'.below h.low
  have x0 := hn.k
  have x1 := hn.n
  have x2 := hn.p
  have x3 := hn.t
  have x4 := hn.ks
  have hkin := hnd'.kin
  have hkl := idxs_len9 ks b
  simp only at x0 x1 x2 x3 x4 hkin
  obtain ⟨m, hm⟩ : ∃ m, m = ks.length := ⟨_, rfl⟩
  rw [hkl, ← hm] at x4
  have hm1 : m ≤ 10000 := by have := nds_len9 ks; omega
  obtain ⟨o, ho⟩ : ∃ o, o = Obj.cells #[.int .i64 5, .int .i64 n, .int .i64 p, .string ⟨⟨t⟩⟩, .slice ka m kc] 60 := ⟨_, rfl⟩
  have hA := (Below.refl w.heap.size w).alloc (Nat.le_refl _) o
  have hD := h.below hA
  have c0 := h.c0
  obtain ⟨ta, tc, htv⟩ := fam_form (h.fam.own .th)
  have htv' : v .th = .slice ta s.sc.flatten.length tc := htv
  have c2 := hD.c2
  rw [htv'] at c2
  obtain ⟨va, vc, g9, cap, w3, e1, r1, ⟨u, e2⟩, e3, ⟨v1, hD1⟩, hK1⟩ := hD.opens (by omega)
  have c3 := hD.c3
  rw [e1] at c3
  obtain ⟨q, hq⟩ : ∃ q, q = s.sc.flatten.length := ⟨_, rfl⟩
  obtain ⟨sl, hsl⟩ : ∃ q, q = s.sc.length := ⟨_, rfl⟩
  rw [← hq] at c2 r1
  rw [← hsl] at c3 r1 hD1 hK1
  obtain ⟨W2, hW2⟩ : ∃ W2, W2 = w3.setCell ⟨P, 3, none⟩ (.slice (some ⟨g9, 0, none⟩) (sl + 1) cap) := ⟨_, rfl⟩
  rw [← hW2] at hD1 hK1
  obtain ⟨s1, hs1⟩ : ∃ s1 : Cs, s1 = { s with sc := [] :: s.sc } := ⟨_, rfl⟩
  rw [← hs1] at hD1
  have hok1 : CsOk rows s1 := by
    rw [hs1]
    refine ⟨fun S hS d hd => ?_, fun S hS => ?_, by simp, hok.us, hok.cn, hok.c4⟩
    · rcases List.mem_cons.1 hS with rfl | hS
      · cases hd
      · exact hok.mem S hS d hd
    · rcases List.mem_cons.1 hS with rfl | hS
      · exact List.Pairwise.nil
      · exact hok.one S hS
  have hI0 : KdI rows (ckNs rows false ks b s1) s1 false ks b 0 s1 := KdI.start hok1 hf.kids
  obtain ⟨Rk, hRk⟩ : ∃ R, R = ckNs rows false ks b s1 := ⟨_, rfl⟩
  rw [← hRk] at hI0
  have hR : ckN rows (.mk 5 n p t ks) b s = Rk.and fun s' => .ok { s' with sc := s'.sc.tail } := by
    rw [ckN, if_pos rfl, ← hs1, ← hRk]
    cases Rk with
    | error e => rfl
    | ok s' => rfl
  obtain ⟨R, hRR⟩ : ∃ R, R = ckN rows (.mk 5 n p t ks) b s := ⟨_, rfl⟩
  rw [← hRR] at hR ⊢
  have HR := Hid.out (p := Hid _) hR
  have HK : Hid (∀ (j : Nat), j < m → ∃ (kb ko : Nat) (y : Nd), ka = some ⟨kb, ko, none⟩ ∧ ks[j]? = some y ∧ (∀ W, Below w0.heap.size w0 W → W.cell? ⟨kb, ko + j, none⟩ = some (.int .i64 ((b + ndsSize (ks.take j) + ndSize y - 1 : Nat) : Int))) ∧ ∀ W vj sj, CDs w0 W (some ⟨g, 0, none⟩) c rows P vj sj (0, 0) → KdI rows Rk s1 false ks b j sj → Calls Tryz.prog 15 #[.pointer (some ⟨P, 0, none⟩), .int .i64 ((b + ndsSize (ks.take j) + ndSize y - 1 : Nat) : Int)] W fun e w' => e = .returned (.tuple #[]) ∧ CQ w0 (some ⟨g, 0, none⟩) c rows P (ckN rows y (b + ndsSize (ks.take j)) sj) w' ∧ KpD W w') := fun j hj => by
    obtain ⟨y, hy⟩ : ∃ y, ks[j]? = some y := ⟨_, List.getElem?_eq_getElem (by omega)⟩
    obtain ⟨kb, ko, e, hc⟩ := kid_num hkin hy
    refine ⟨kb, ko, y, e, hy, hc, fun W vj sj hW hI => ?_⟩
    have hgl := hI.grw.len hok1.ne
    have hnt := nds_take9 hy
    have hs1l : s1.sc.length = s.sc.length + 1 ∧ s1.sc.flatten.length = s.sc.flatten.length := by rw [hs1]; exact ⟨rfl, rfl⟩
    exact hks j y hy w0 W _ c P vj sj (hI.fatOne hy) hW hI.ok (by omega) (by omega)
  have HO : Hid (o = Obj.cells #[.int .i64 5, .int .i64 n, .int .i64 p, .string ⟨⟨t⟩⟩, .slice ka m kc] 60 ∧ (w.alloc o).heap[w.heap.size]? = some o ∧ ¬ BadD o ∧ KpD w (w.alloc o)) := ⟨ho, heap_alloc_new _ _, by rw [ho]; exact bad_node _, KpD.of_below hA⟩
  have HI0 : Hid (∃ vj sj, CDs w0 W2 (some ⟨g, 0, none⟩) c rows P vj sj (0, 0) ∧ KdI rows Rk s1 false ks b 0 sj ∧ KpD (w.alloc o) W2) := ⟨v1, s1, hD1, hI0, hK1⟩
  have HW2 := Hid.out (p := Hid _) hW2
  have HS : Hid (s1 = { s with sc := [] :: s.sc } ∧ q = s.sc.flatten.length ∧ sl = s.sc.length ∧ s.sc ≠ [] ∧ m = ks.length ∧ s1.sc ≠ [] ∧ sl ≤ 10000 ∧ q ≤ 10000 ∧ ndsSize ks ≤ 10000) := ⟨hs1, hq, hsl, hok.ne, hm, hok1.ne, by omega, by omega, by omega⟩
  have hi' : (i : Int) < (rows.length : Int) := by omega
  have hqb : q ≤ 10000 := by omega
  have hslb : sl ≤ 10000 := by omega
  clear hks hf h hok hb1 hb2 hrow hlt hi hil hnd hnd' hn hkin hkl hm hA hD htv htv' hD1 hK1 hq hsl hW2 hs1 hok1 hI0 hRk hR hRR e1
  rw [show (w.alloc o).heap.size = w.heap.size + 1 by simp] at r1
  rw [ho] at c2 c3 r1
  go_enter Tryz.func15, Tryz.ntmps15
  go_wp2_with fail
  rw [← HW2.out]
  clear x0 x1 x2 x3 x4 c0 c2 c3 r1 e2 e3 ho HW2
  go_loopw [6] (fun x wr => ∃ j : Nat, j ≤ m ∧ x = .int .i64 j ∧ Hid (∃ vj sj, CDs w0 wr (some ⟨g, 0, none⟩) c rows P vj sj (0, 0) ∧ KdI rows Rk s1 false ks b j sj ∧ KpD (w.alloc o) wr)) (fun x _ => m - (intOf x).toNat)
  case atStart => exact ⟨0, Nat.zero_le _, rfl, HI0⟩
  case round =>
    obtain ⟨j, hj, rfl, HJ⟩ := hrel
    clear HI0
    obtain ⟨vj, sj, hJ1, hJ2, hJ3⟩ := HJ.out
    have hxo := (hJ3.at' _ _ HO.out.2.1 HO.out.2.2.1).trans HO.out.2.1
    rw [HO.out.1] at hxo
    obtain ⟨e0, e1, e2, e3, e4, ef⟩ := box5 hxo
    have HJ3 := Hid.out (p := Hid _) (HO.out.2.2.2.trans hJ3)
    have HJ4 := Hid.out (p := Hid _) hJ3
    by_cases hlt : j < m
    · obtain ⟨kb, ko, y, rfl, hy, hc, hX⟩ := HK.out j hlt
      have y0 := hc _ hJ1.low
      have hX2 := hX wr vj sj hJ1 hJ2
      obtain ⟨N, hN⟩ : ∃ N : Nat, N = b + ndsSize (ks.take j) + ndSize y - 1 := ⟨_, rfl⟩
      rw [← hN] at y0 hX2
      have HX := Hid.out (p := Hid _) hX2
      have hlt' : (j : Int) < (m : Int) := by omega
      cases hck : ckN rows y (b + ndsSize (ks.take j)) sj with
      | error f =>
        rw [hck] at HX
        have HE : Hid (R = .error f) := by
          show _ = _
          rw [HR.out, hJ2.bad hy (by simpa using hck)]
          rfl
        clear hX hX2 hJ1 hJ2 hJ3 hxo hN hck hc hy HJ
        go_wp2_with fail
        refine Calls.mono HX.out ?_
        rintro e w2 ⟨rfl, ⟨hf0, v', s', hD'⟩, hK'⟩
        have c5 := hD'.c5
        have hfb : (f.1 != 0) = true := by simpa using hf0
        have HD' : Hid (CQ w0 (some ⟨g, 0, none⟩) c rows P (.error f) w2 ∧ KpD w w2) := ⟨⟨hf0, v', s', hD'⟩, HJ3.out.trans hK'⟩
        clear hD' hK' hf0 e0 e1 e2 e3 e4 ef y0
        go_wp2_with fail
        refine bodyPost_ret (v := .tuple #[]) (results_none rfl _ _ _) rfl ⟨rfl, ?_, HD'.out.2⟩
        rw [HE.out]
        exact HD'.out.1
      | ok s' =>
        rw [hck] at HX
        have HNX := Hid.out (p := Hid _) (hJ2.next hy (by simpa using hck))
        clear hX hX2 hJ1 hJ2 hJ3 hxo hN hck hc hy HJ
        go_wp2_with fail
        refine Calls.mono HX.out ?_
        rintro e w2 ⟨rfl, ⟨v', hD'⟩, hK'⟩
        have c5 := hD'.c5
        simp only at c5
        have hK2 := HJ4.out.trans hK'
        have hxo := (hK2.at' _ _ HO.out.2.1 HO.out.2.2.1).trans HO.out.2.1
        rw [HO.out.1] at hxo
        clear e0 e1 e2 e3 e4 ef
        obtain ⟨e0, e1, e2, e3, e4, ef⟩ := box5 hxo
        have HD' : Hid (∀ q, ∃ vj sj, CDs w0 (w2.drewN q) (some ⟨g, 0, none⟩) c rows P vj sj (0, 0) ∧ KdI rows Rk s1 false ks b (j + 1) sj ∧ KpD (w.alloc o) (w2.drewN q)) := fun q => ⟨v', s', hD'.below (below_drewN (Below.refl _ _)), HNX.out, hK2.trans (KpD.of_below (below_drewN (Below.refl _ _)))⟩
        clear hD' hK' hK2 hxo y0
        go_wp2_with fail
        go_quiet (fail)
        go_wp2_with fail
        go_roundw
        case rel => exact ⟨j + 1, by omega, by go_num, HD'.out _⟩
        case measure => simp [intOf]; omega
    · obtain rfl : j = m := by omega
      have hdone := hJ2.done HS.out.2.2.2.2.1
      have hgl := hJ2.grw
      have htl : sj.sc.tail = s.sc := by
        have := hgl.sc
        rw [HS.out.1] at this
        exact this
      have hsj := sc_cons (hgl.ne HS.out.2.2.2.2.2.1)
      rw [htl] at hsj
      obtain ⟨S', hS'⟩ : ∃ S', sj.sc = S' :: s.sc := ⟨_, hsj⟩
      have HRj : Hid (R = .ok { sj with sc := s.sc }) := by
        show _ = _
        rw [HR.out, hdone]
        show Except.ok { sj with sc := sj.sc.tail } = _
        rw [htl]
      obtain ⟨ta, tc, htv⟩ := fam_form (hJ1.fam.own .th)
      have htv' : vj .th = .slice ta sj.sc.flatten.length tc := htv
      have hcap : sj.sc.flatten.length ≤ tc := by
        have := hJ1.fam.own .th
        rw [htv'] at this
        exact own_cap this
      have hql : q ≤ sj.sc.flatten.length := by rw [HS.out.2.1, hS']; simp
      have c2 := hJ1.c2
      rw [htv'] at c2
      have f2 := hJ1.fz 2
      have hcut := hJ1.cutT hS' htv'
      rw [← HS.out.2.1] at hcut
      obtain ⟨ba, bc, hbv⟩ := fam_form (hcut.1.fam.own .bl)
      have hbv' : (upd vj .th (.slice ta q tc)) .bl = .slice ba (sl + 1) bc := by
        rw [hbv, HS.out.2.2.1]; rfl
      have hcapb : sl + 1 ≤ bc := by
        have := hcut.1.fam.own .bl
        rw [hbv', HS.out.2.2.1] at this
        rw [HS.out.2.2.1]
        exact own_cap this
      have c3 := hcut.1.c3
      rw [hbv'] at c3
      have f3 := hcut.1.fz 3
      have hcutb := hcut.1.cutB rfl (by rw [hbv', HS.out.2.2.1]; rfl : (upd vj .th (.slice ta q tc)) .bl = .slice ba (([] : List Nat) :: s.sc).length bc)
      rw [← HS.out.2.2.1] at hcutb
      obtain ⟨tl, htl9⟩ : ∃ tl, tl = sj.sc.flatten.length := ⟨_, rfl⟩
      rw [← htl9] at c2 hcap hql
      have hql' : (q : Int) ≤ (tl : Int) := by omega
      have hqc : q ≤ tc := by omega
      have hqc' : (q : Int) ≤ (tc : Int) := by omega
      have hc1 : ((sl + 1 : Nat) : Int) - 1 = (sl : Int) := by omega
      have hslc : (sl : Int) ≤ (bc : Int) := by omega
      have hwr : IntKind.i64.wrap (sl : Int) = (sl : Int) := by rw [IntKind.wrap_i64]; omega
      have HF : Hid (CQ w0 (some ⟨g, 0, none⟩) c rows P R (((wr.setCell ⟨P, 2, none⟩ (.slice ta q tc)).drew).setCell ⟨P, 3, none⟩ (.slice ba sl bc)) ∧ KpD w (((wr.setCell ⟨P, 2, none⟩ (.slice ta q tc)).drew).setCell ⟨P, 3, none⟩ (.slice ba sl bc))) := by
        refine ⟨?_, ?_⟩
        · rw [HRj.out]
          exact ⟨_, hcutb.1.below ((Below.refl _ _).drew)⟩
        · exact ((HJ3.out.trans hcut.2).trans hcutb.2).trans (KpD.of_below ((Below.refl _ _).drew))
      clear hdone hgl htl hsj hS' htv htv' hcut hbv hbv' hcutb htl9 hJ1 hJ2 hJ3 hxo HJ
      go_wp2_with fail
      refine region_tail 14 (by kernel_rfl) (by kernel_rfl) ?_
      simp only [List.take_succ_cons, List.take_zero, List.drop_succ_cons, List.drop_zero]
      repeat still_step
      refine wpStill_nil ?_
      go_wp2_with fail
      go_end0
      exact ⟨rfl, HF.out⟩
end
end

section
open Go.RowKit

theorem mkScp (w : World) : (Instr.makeMap 114 none).run Tryz.prog w = .ok (.map (some w.heap.size)) (w.alloc (.map #[] 0)) := by kernel_rfl
section
variable {w0 w w' : World} {a : Option Addr} {c : Nat} {rows : List Row} {P : Nat} {v : Rk → Value} {ms : List Nat} {cm : Nat} {s : Cs}
/-- A scope is left. -/
theorem CPs.closes (h : CPs w0 w a c rows P v ms cm s) {S : List Nat} {r : List (List Nat)} (hs : s.sc = S :: r) : ∃ sa cap, w.cell? ⟨P, 2, none⟩ = some (.slice sa (r.length + 1) cap) ∧ r.length + 1 ≤ cap ∧ (∃ v' ms', CPs w0 ((w.drew).setCell ⟨P, 2, none⟩ (.slice sa r.length cap)) a c rows P v' ms' cm { s with sc := r }) ∧ KpC w ((w.drew).setCell ⟨P, 2, none⟩ (.slice sa r.length cap)) := by
  have hl : ms.length = r.length + 1 := by rw [h.len, hs]; rfl
  obtain ⟨mb, mr, rfl⟩ : ∃ mb mr, ms = mb :: mr := by
    cases ms with
    | nil => simp at hl
    | cons mb mr => exact ⟨mb, mr, rfl⟩
  have hml : mr.length = r.length := by simpa using hl
  obtain ⟨sa, cap, hv⟩ := fam_form (h.fam.own .sc)
  have hv' : v .sc = .slice sa (mb :: mr).length cap := hv
  have ho : w.ownsRow w0.heap.size 114 1 (.slice sa (mb :: mr).length cap) (mb :: mr).length (mV (mb :: mr)) := by rw [← hv']; exact h.fam.own .sc
  have hcap := own_cap ho
  have c2 := h.c2
  rw [hv', hl] at c2
  have hb : Rk.box ≠ Rk.sc := by decide
  have hF : Fam w w0.heap.size kTy kSz (upd v .sc (.slice sa r.length cap)) (upd (kN s (mb :: mr)) .sc r.length) (upd (kX a rows.length c v (mb :: mr) cm s) .sc (mV mr)) := by
    refine ⟨fun q => ?_, fun q p g hq hp => ?_⟩
    · by_cases e : q = .sc
      · subst e
        rw [upd_self, upd_self, upd_self]
        have := own_cut ho (m := r.length) (by rw [hl]; omega)
        have e2 : (mV (mb :: mr)).take r.length = mV mr := by
          unfold mV
          rw [← hml]
          simp
        rw [e2] at this
        exact this
      · rw [upd_ne _ _ e, upd_ne _ _ e, upd_ne _ _ e]
        exact h.fam.own q
    · have e1 : ∀ q, (upd v .sc (.slice sa r.length cap) q).ownBlock = (v q).ownBlock := fun q => by
        by_cases e : q = .sc
        · subst e; rw [upd_self, hv']; exact own_same
        · rw [upd_ne _ _ e]
      rw [e1] at hq hp
      exact h.fam.apart q p g hq hp
  have hlt : (upd v .sc (.slice sa r.length cap) .box).ownBlock = some P := by rw [upd_ne _ _ hb]; exact h.blk
  have hm : ∀ b, b ∈ cm :: (mb :: mr) → (w.setCell ⟨P, 2, none⟩ (.slice sa r.length cap)).heap[b]? = w.heap[b]? := fun b hbm => h.mapsSet h.blk 2 _ hbm
  have hC : CPs w0 (w.setCell ⟨P, 2, none⟩ (.slice sa r.length cap)) a c rows P (upd v .sc (.slice sa r.length cap)) mr cm { s with sc := r } := by
    refine ⟨hF.put hlt 2 _ (fun q => ?_) ?_ (fun q hq => ?_), ?_, h.lowSet h.blk 2 _, h.nds, hml, fun j S' b h1 h2 => ?_, h.cnt.keep (hm cm (List.mem_cons_self ..)), fun b hbm => ?_, ?_⟩
    · cases q
      · rfl
      · rfl
      · rw [upd_self]; exact hml
    · rw [upd_ne _ _ hb]; rfl
    · cases q
      · exact absurd rfl hq
      · rfl
      · rw [upd_self]; rfl
    · rw [upd_ne _ _ hb]; exact h.box
    · exact (h.maps (j + 1) S' b (by rw [hs]; exact h1) h2).keep (hm b (List.mem_cons_of_mem _ (List.mem_cons_of_mem _ (List.mem_of_getElem? h2))))
    · rcases List.mem_cons.1 hbm with rfl | hbm
      · exact h.ge _ (List.mem_cons_self ..)
      · exact h.ge _ (List.mem_cons_of_mem _ (List.mem_cons_of_mem _ hbm))
    · have hnod := List.nodup_cons.1 h.nod
      exact List.nodup_cons.2 ⟨fun hm9 => hnod.1 (List.mem_cons_of_mem _ hm9), (List.nodup_cons.1 hnod.2).2⟩
  exact ⟨sa, cap, c2, by rw [← hl]; exact hcap, ⟨_, _, hC.below ((Below.refl _ _).drew)⟩, (h.kept h.blk 2 _).trans (KpC.of_below ((Below.refl _ _).drew))⟩
/-- .. when a fault is told. -/
theorem CPw.closes {L : Nat} (h : CPw w0 w P (L + 1)) : ∃ sa cap, w.cell? ⟨P, 2, none⟩ = some (.slice sa (L + 1) cap) ∧ w.frozen? ⟨P, 2, none⟩ = false ∧ L + 1 ≤ cap ∧ CPw w0 ((w.drew).setCell ⟨P, 2, none⟩ (.slice sa L cap)) P L ∧ KpC w ((w.drew).setCell ⟨P, 2, none⟩ (.slice sa L cap)) := by
  obtain ⟨⟨x0, x1, x3, sa, cap, h1, h2⟩, h3, h4⟩ := h
  refine ⟨sa, cap, box_cell h1 rfl, box_free h1, h2, ⟨⟨x0, x1, x3, sa, cap, ?_, by omega⟩, h3, (h4.drew).setCell (p := ⟨P, 2, none⟩) h3 _⟩, ⟨fun k o e hbd => ?_⟩⟩
  · have hh : (w.drew).heap[P]? = _ := h1
    simp [World.setCell, Array.getElem?_modify, hh]
  · refine Below.heap_setCell _ _ _ _ (fun he => hbd ?_)
    have he' : k = P := he
    rw [he', h1] at e
    rw [← Option.some.inj e]
    exact Or.inl ⟨_, _, Or.inr (Or.inl rfl)⟩
attribute [local go_sem ↓] appS_eq
set_option maxRecDepth 100000 in
set_option maxHeartbeats 3200000 in
theorem cblock_any (h : CPs w0 w a c rows P v ms cm s) (hlen : s.sc.length ≤ 10000) (ka : Option Addr) (kn kc : Nat) {Rk : CRes} (hWA : ∀ W v' ms' cm', CPs w0 W a c rows P v' ms' cm' { s with sc := [] :: s.sc } → Calls Tryz.prog 90 #[.pointer (some ⟨P, 0, none⟩), .slice ka kn kc] W fun e w' => PQ w0 a c rows P (s.sc.length + 1) Rk e w' ∧ KpC W w') (hRk : ∀ s', Rk = .ok s' → s'.sc.tail = s.sc ∧ s'.sc ≠ []) :
    Calls Tryz.prog 88 #[.pointer (some ⟨P, 0, none⟩), .slice ka kn kc] w fun e w' => PQ w0 a c rows P s.sc.length (Rk.and fun s' => .ok { s' with sc := s'.sc.tail }) e w' ∧ KpC w w' := by
  obtain ⟨va, vc, g, cap, w3, e1, r1, ⟨u, u2⟩, f2, ⟨v1, hP1⟩, hK1⟩ := h.opens (by rw [h.len]; omega)
  have c2 := h.c2
  rw [e1] at c2
  have c2u := fun o => cell_up c2 o
  obtain ⟨W1, hW1⟩ : ∃ W1, w3.setCell ⟨P, 2, none⟩ (.slice (some ⟨g, 0, none⟩) (ms.length + 1) cap) = W1 := ⟨_, rfl⟩
  rw [hW1] at hP1 hK1
  have HX : Hid (Calls Tryz.prog 90 #[.pointer (some ⟨P, 0, none⟩), .slice ka kn kc] W1 fun e w' => PQ w0 a c rows P (s.sc.length + 1) Rk e w' ∧ KpC W1 w') := hWA W1 v1 _ cm hP1
  have hmk := mkScp
  have HW1 := Hid.out (p := Hid _) hW1
  have HK1 := Hid.out (p := Hid _) hK1
  obtain ⟨n, hn⟩ : ∃ n, n = ms.length := ⟨_, rfl⟩
  rw [← hn] at c2 c2u r1 HW1
  have hn5 : n ≤ 10000 := by rw [hn, h.len]; exact hlen
  obtain ⟨L, hL⟩ : ∃ L, L = s.sc.length := ⟨_, rfl⟩
  rw [← hL] at HX ⊢
  have hL5 : L ≤ 100000 := by omega
  have HRK := Hid.out (p := Hid _) hRk
  have HLL := Hid.out (p := Hid _) hL
  clear h hWA hP1 hK1 hW1 e1 hn hlen hL hRk
  cases Rk with
  | error f =>
    go_enter_defers Tryz.func88, Tryz.ntmps88
    go_wp2_with fail
    rw [HW1.out]
    refine Calls.mono HX.out ?_
    rintro e w2 ⟨⟨rfl, hw⟩, hk2⟩
    obtain ⟨sa, cap2, q2, qf, hcap, hw3, hk3⟩ := hw.closes
    refine leaves_cons (f := 118) (args := #[.pointer (some ⟨P, 0, none⟩)]) (by simp) (by simp [go_sem]) ?_
    refine (cleave_d w2 P L cap2 sa (.panicking (badF f)) q2 qf hcap hL5).mono ?_
    rintro e u' w'' ⟨rfl, rfl, rfl⟩
    exact ⟨⟨rfl, hw3⟩, (HK1.out.trans hk2).trans hk3⟩
  | ok s' =>
    go_enter_defers Tryz.func88, Tryz.ntmps88
    go_wp2_with fail
    rw [HW1.out]
    refine Calls.mono HX.out ?_
    rintro e w2 ⟨⟨rfl, v2, ms2, cm2, hP2⟩, hk2⟩
    obtain ⟨ht, hne⟩ := HRK.out s' rfl
    have hsc := sc_cons hne
    rw [ht] at hsc
    obtain ⟨sa, cap2, q2, hcap, ⟨v3, ms3, hP3⟩, hk3⟩ := hP2.closes hsc
    have qf := hP2.fz 2
    rw [← HLL.out] at q2 hcap hP3 hk3
    have HZ : Hid ((∃ v' ms' cm', CPs w0 ((w2.drew).setCell ⟨P, 2, none⟩ (.slice sa L cap2)) a c rows P v' ms' cm' { s' with sc := s'.sc.tail }) ∧ KpC w ((w2.drew).setCell ⟨P, 2, none⟩ (.slice sa L cap2))) := ⟨⟨v3, ms3, cm2, by rw [ht]; exact hP3⟩, (HK1.out.trans hk2).trans hk3⟩
    have HQ := Hid.out (p := Hid _) (And.intro q2 (And.intro qf hcap))
    clear hP2 hk2 hsc hP3 hk3 ht hne q2 qf hcap
    go_wp2_with fail
    refine leaves_cons (f := 118) (args := #[.pointer (some ⟨P, 0, none⟩)]) (by simp) (by simp [go_sem]) ?_
    refine (cleave_d w2 P L cap2 sa .returning HQ.out.1 HQ.out.2.1 HQ.out.2.2 hL5).mono ?_
    rintro e u' w'' ⟨rfl, rfl, rfl⟩
    exact ⟨_, results_none rfl _ _ _, ⟨rfl, HZ.out.1⟩, HZ.out.2⟩
end
end

end Go.Proofs.YtggfbfjdiikaeaaGreatDoor
