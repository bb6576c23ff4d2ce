/-
  The program's checker: a scope is opened, and left.
  The program's checker: blocks; lists of nodes.
  The program's parser: locks; the kids of a cas.
-/
import Derived.Test.YtclnjhffcfkihaeGreatDoorSqL
import Derived.Defers
import Derived.Recover
import Derived.Test.YtclnjhffcfkihaeGreatDoorChkD7
namespace Go.Proofs.YtclnjhffcfkihaeGreatDoor
section
open Go.RowKit

theorem infoScp : (Tryz.prog.info? 108).map (fun i => (i.zero, i.size, i.bytes)) = some (some (.map none), 1, 8) := by kernel_rfl
set_option maxRecDepth 100000 in
set_option maxHeartbeats 1600000 in
theorem cleave_d (w : World) (P L cap : Nat) (sa : Option Addr) (u : FrameMode) (c2 : w.cell? ⟨P, 2, none⟩ = some (.slice sa (L + 1) cap)) (f2 : w.frozen? ⟨P, 2, none⟩ = false) (hcap : L + 1 ≤ cap) (hL : L ≤ 100000) :
    CallsD Tryz.prog 123 #[.pointer (some ⟨P, 0, none⟩)] u w fun e u' w' => u' = u ∧ (e = .returned (.tuple #[]) ∧ w' = (w.drew).setCell ⟨P, 2, none⟩ (.slice sa L cap)) := by
  have hc1 : ((L + 1 : Nat) : Int) - 1 = (L : Int) := by omega
  have hslc : (L : Int) ≤ (cap : Int) := by omega
  have hwr : IntKind.i64.wrap (L : Int) = (L : Int) := by rw [IntKind.wrap_i64]; omega
  go_enter_d Tryz.func123, Tryz.ntmps123
  go_wp2_with fail
  refine region_tail 14 (by kernel_rfl) (by kernel_rfl) ?_
  simp only [List.take_succ_cons, List.take_zero, List.drop_succ_cons, List.drop_zero]
  repeat still_step
  refine wpStill_nil ?_
  go_wp2_with fail
  go_end0
  exact ⟨rfl, rfl⟩
section
variable {w0 w w' : World} {a : Option Addr} {c : Nat} {rows : List Row} {P : Nat} {v : Rk → Value} {ms : List Nat} {cm : Nat} {s : Cs}
/-- A scope is opened. -/
theorem CPs.opens (h : CPs w0 w a c rows P v ms cm s) (hn : ms.length ≤ 100000) : ∃ va vc g cap w3, v .sc = .slice va ms.length vc ∧ (AppS #[80, 80] 80 #[.slice va ms.length vc, .slice (some ⟨w.heap.size + 1, 0, none⟩) 1 1]).run Tryz.prog ((w.alloc (.map #[] 0)).alloc (.cells #[.map (some w.heap.size)] 108)) = .ok (.slice (some ⟨g, 0, none⟩) (ms.length + 1) cap) w3 ∧
    (∃ u, w3.cell? ⟨P, 2, none⟩ = some u) ∧ w3.frozen? ⟨P, 2, none⟩ = false ∧ (∃ v', CPs w0 (w3.setCell ⟨P, 2, none⟩ (.slice (some ⟨g, 0, none⟩) (ms.length + 1) cap)) a c rows P v' (w.heap.size :: ms) cm { s with sc := [] :: s.sc }) ∧ KpC w (w3.setCell ⟨P, 2, none⟩ (.slice (some ⟨g, 0, none⟩) (ms.length + 1) cap)) := by
  have ho : w.ownsRow w0.heap.size 108 1 (v .sc) ms.length (mV ms) := h.fam.own .sc
  obtain ⟨va, vc, hv⟩ := fam_form ho
  have hA := (Below.refl w.heap.size w).alloc (Nat.le_refl _) (.map #[] 0)
  obtain ⟨g, cap, w3, r1, r2, r3, r4⟩ := app_row Tryz.underlying80 infoScp rfl (by decide) ho hA h.low.size 1 #[.map (some w.heap.size)] rfl (by intro u hu; simp at hu; subst hu; rfl) (by decide) (by omega) (by decide)
  rw [hv, World.size_alloc] at r1
  have hB := hA.alloc (by simp) (.cells #[.map (some w.heap.size)] 108)
  have hfam := (h.fam.below hB).grow (r := .sc) (H := (w.alloc (.map #[] 0)).heap.size + 1) (m := ms.length + 1) (c := cap) (g := g) (n1 := upd (kN s ms) .sc (ms.length + 1)) (xs1 := upd (kX a rows.length c v ms cm s) .sc (mV ms ++ [.map (some w.heap.size)])) r2 r3 r4 (by simp) (upd_self _ _ _) (fun q hq => upd_ne _ _ hq) (upd_self _ _ _) (fun q hq => upd_ne _ _ hq)
  have hb : Rk.box ≠ Rk.sc := by decide
  have hlt : (upd v .sc (.slice (some ⟨g, 0, none⟩) (ms.length + 1) cap) .box).ownBlock = some P := by rw [upd_ne _ _ hb]; exact h.blk
  have hc2 : w3.cell? ⟨P, 2, none⟩ = some (v .sc) := hfam.cell hlt (by rw [upd_ne _ _ hb]; rfl)
  have hf2 : w3.frozen? ⟨P, 2, none⟩ = false := hfam.frozen hlt 2
  have hP3 : ∃ cur, w3.heap[P]? = some (.cells cur 83 (0, 0)) := by
    have h2 := (hfam.own .box).2
    rw [upd_ne _ _ hb, upd_ne _ _ hb, upd_ne _ _ hb, h.box] at h2
    rcases h2 with ⟨h0, _⟩ | ⟨g', cap', cur, hv', _, hh, _⟩
    · cases h0
    · simp only [Value.slice.injEq, Option.some.injEq, Addr.mk.injEq, and_true] at hv'
      rw [← hv'.1] at hh
      exact ⟨cur, hh⟩
  obtain ⟨cur3, hP3⟩ := hP3
  have hmapk : ∀ b : Nat, (∃ es cl, (w.alloc (.map #[] 0)).heap[b]? = some (Obj.map es cl)) → (w3.setCell ⟨P, 2, none⟩ (.slice (some ⟨g, 0, none⟩) (ms.length + 1) cap)).heap[b]? = (w.alloc (.map #[] 0)).heap[b]? := fun b ⟨es, cl, hbm⟩ => by
    have hbl := heap_ltD hbm
    have e1 : ((w.alloc (.map #[] 0)).alloc (.cells #[.map (some w.heap.size)] 108)).heap[b]? = (w.alloc (.map #[] 0)).heap[b]? := Below.heap_alloc _ _ _ hbl
    have e2 : w3.heap[b]? = ((w.alloc (.map #[] 0)).alloc (.cells #[.map (some w.heap.size)] 108)).heap[b]? := r3.block b (heap_ltD (e1.trans hbm)) (fun he => by
      obtain ⟨cur, hcur⟩ := h.cells he.symm
      have h5 := (hA.block b (heap_ltD hcur)).trans hcur
      rw [hbm] at h5
      cases h5)
    refine (Below.heap_setCell _ _ _ _ (fun he => ?_)).trans (e2.trans e1)
    have he' : b = P := he
    rw [he'] at e1 e2 hbm
    rw [e2.trans (e1.trans hbm)] at hP3
    cases hP3
  have hold : ∀ b, b ∈ cm :: ms → (w3.setCell ⟨P, 2, none⟩ (.slice (some ⟨g, 0, none⟩) (ms.length + 1) cap)).heap[b]? = w.heap[b]? := fun b hbm => by
    obtain ⟨es, cl, e⟩ := h.mapLt hbm
    have e1 := hA.block b (heap_ltD e)
    exact (hmapk b ⟨es, cl, e1.trans e⟩).trans e1
  refine ⟨va, vc, g, cap, w3, hv, r1, ⟨_, hc2⟩, hf2, ⟨upd v .sc (.slice (some ⟨g, 0, none⟩) (ms.length + 1) cap), ⟨hfam.put hlt 2 _ (fun q => ?_) ?_ (fun q hq => ?_), ?_, ?_, h.nds, by simp [h.len], fun j S b h1 h2 => ?_, h.cnt.keep (hold cm (List.mem_cons_self ..)), fun b hbm => ?_, ?_⟩⟩, ?_⟩
  · cases q
    · rfl
    · rfl
    · rw [upd_self]; simp [kN]
  · rw [upd_ne _ _ hb]; rfl
  · cases q
    · exact absurd rfl hq
    · rfl
    · rw [upd_self]
      show mV (w.heap.size :: ms) = _
      unfold mV
      simp
  · rw [upd_ne _ _ hb]; exact h.box
  · refine Below.setCell (p := ⟨P, 2, none⟩) ?_ h.le _
    exact (h.low.trans (hB.mono h.low.size)).grown r3 (by have := h.low.size; simp; omega) (fun k hk => (ho.lt k hk).1)
  · cases j with
    | zero =>
      have e1 : S = [] := by simpa using h1.symm
      have e2 : b = w.heap.size := by simpa using h2.symm
      subst e1 e2
      have hmade := World.ownsMap_made (H := Unit) w Tryz.prog 9 (plainElem (H := Unit) Tryz.prog 3)
      refine ⟨0, .map [], Nat.le_refl _, ownsMap_keep hmade (hmapk _ ⟨_, _, World.alloc_heap_new w _⟩), fun t => ?_, fun d hd => by cases hd⟩
      constructor
      · intro h9
        simp [Maps.has] at h9
      · rintro ⟨d, hd, _⟩
        cases hd
    | succ j =>
      simp only [List.getElem?_cons_succ] at h1 h2
      exact (h.maps j S b h1 h2).keep (hold b (List.mem_cons_of_mem _ (List.mem_of_getElem? h2)))
  · rcases List.mem_cons.1 hbm with rfl | hbm
    · exact h.ge _ (List.mem_cons_self ..)
    · rcases List.mem_cons.1 hbm with rfl | hbm
      · exact h.low.size
      · exact h.ge _ (List.mem_cons_of_mem _ hbm)
  · have hne : ∀ b, b ∈ cm :: ms → b ≠ w.heap.size := fun b hbm e => by
      obtain ⟨es, cl, e9⟩ := h.mapLt hbm
      have := heap_ltD e9
      omega
    have hnod := List.nodup_cons.1 h.nod
    refine List.nodup_cons.2 ⟨fun hm => ?_, List.nodup_cons.2 ⟨fun hm => hne _ (List.mem_cons_of_mem _ hm) rfl, hnod.2⟩⟩
    rcases List.mem_cons.1 hm with e | hm
    · exact hne cm (List.mem_cons_self ..) e
    · exact hnod.1 hm
  · refine ((KpC.of_below hB).trans ⟨fun k o e hbd => r3.block k (heap_ltD e) (fun he => hbd ?_)⟩).trans ⟨fun k o e hbd => Below.heap_setCell _ _ _ _ (fun he => hbd ?_)⟩
    · obtain ⟨cur, hcur⟩ := h.cells he.symm
      have h5 := (hB.block k (heap_ltD hcur)).trans hcur
      rw [e] at h5
      rw [Option.some.inj h5]
      exact Or.inl ⟨cur, (0, 0), Or.inr (Or.inr rfl)⟩
    · have he' : k = P := he
      rw [he', hP3] at e
      rw [← Option.some.inj e]
      exact Or.inl ⟨cur3, (0, 0), Or.inr (Or.inl rfl)⟩
end
end

section
open Go.RowKit

theorem mkScp (w : World) : (Instr.makeMap 108 none).run Tryz.prog w = .ok (.map (some w.heap.size)) (w.alloc (.map #[] 0)) := by kernel_rfl
section
variable {w0 w w' : World} {a : Option Addr} {c : Nat} {rows : List Row} {P : Nat} {v : Rk → Value} {ms : List Nat} {cm : Nat} {s : Cs}
/-- A scope is left. -/
theorem CPs.closes (h : CPs w0 w a c rows P v ms cm s) {S : List Nat} {r : List (List Nat)} (hs : s.sc = S :: r) : ∃ sa cap, w.cell? ⟨P, 2, none⟩ = some (.slice sa (r.length + 1) cap) ∧ r.length + 1 ≤ cap ∧ (∃ v' ms', CPs w0 ((w.drew).setCell ⟨P, 2, none⟩ (.slice sa r.length cap)) a c rows P v' ms' cm { s with sc := r }) ∧ KpC w ((w.drew).setCell ⟨P, 2, none⟩ (.slice sa r.length cap)) := by
  have hl : ms.length = r.length + 1 := by rw [h.len, hs]; rfl
  obtain ⟨mb, mr, rfl⟩ : ∃ mb mr, ms = mb :: mr := by
    cases ms with
    | nil => simp at hl
    | cons mb mr => exact ⟨mb, mr, rfl⟩
  have hml : mr.length = r.length := by simpa using hl
  obtain ⟨sa, cap, hv⟩ := fam_form (h.fam.own .sc)
  have hv' : v .sc = .slice sa (mb :: mr).length cap := hv
  have ho : w.ownsRow w0.heap.size 108 1 (.slice sa (mb :: mr).length cap) (mb :: mr).length (mV (mb :: mr)) := by rw [← hv']; exact h.fam.own .sc
  have hcap := own_cap ho
  have c2 := h.c2
  rw [hv', hl] at c2
  have hb : Rk.box ≠ Rk.sc := by decide
  have hF : Fam w w0.heap.size kTy kSz (upd v .sc (.slice sa r.length cap)) (upd (kN s (mb :: mr)) .sc r.length) (upd (kX a rows.length c v (mb :: mr) cm s) .sc (mV mr)) := by
    refine ⟨fun q => ?_, fun q p g hq hp => ?_⟩
    · by_cases e : q = .sc
      · subst e
        rw [upd_self, upd_self, upd_self]
        have := own_cut ho (m := r.length) (by rw [hl]; omega)
        have e2 : (mV (mb :: mr)).take r.length = mV mr := by
          unfold mV
          rw [← hml]
          simp
        rw [e2] at this
        exact this
      · rw [upd_ne _ _ e, upd_ne _ _ e, upd_ne _ _ e]
        exact h.fam.own q
    · have e1 : ∀ q, (upd v .sc (.slice sa r.length cap) q).ownBlock = (v q).ownBlock := fun q => by
        by_cases e : q = .sc
        · subst e; rw [upd_self, hv']; exact own_same
        · rw [upd_ne _ _ e]
      rw [e1] at hq hp
      exact h.fam.apart q p g hq hp
  have hlt : (upd v .sc (.slice sa r.length cap) .box).ownBlock = some P := by rw [upd_ne _ _ hb]; exact h.blk
  have hm : ∀ b, b ∈ cm :: (mb :: mr) → (w.setCell ⟨P, 2, none⟩ (.slice sa r.length cap)).heap[b]? = w.heap[b]? := fun b hbm => h.mapsSet h.blk 2 _ hbm
  have hC : CPs w0 (w.setCell ⟨P, 2, none⟩ (.slice sa r.length cap)) a c rows P (upd v .sc (.slice sa r.length cap)) mr cm { s with sc := r } := by
    refine ⟨hF.put hlt 2 _ (fun q => ?_) ?_ (fun q hq => ?_), ?_, h.lowSet h.blk 2 _, h.nds, hml, fun j S' b h1 h2 => ?_, h.cnt.keep (hm cm (List.mem_cons_self ..)), fun b hbm => ?_, ?_⟩
    · cases q
      · rfl
      · rfl
      · rw [upd_self]; exact hml
    · rw [upd_ne _ _ hb]; rfl
    · cases q
      · exact absurd rfl hq
      · rfl
      · rw [upd_self]; rfl
    · rw [upd_ne _ _ hb]; exact h.box
    · exact (h.maps (j + 1) S' b (by rw [hs]; exact h1) h2).keep (hm b (List.mem_cons_of_mem _ (List.mem_cons_of_mem _ (List.mem_of_getElem? h2))))
    · rcases List.mem_cons.1 hbm with rfl | hbm
      · exact h.ge _ (List.mem_cons_self ..)
      · exact h.ge _ (List.mem_cons_of_mem _ (List.mem_cons_of_mem _ hbm))
    · have hnod := List.nodup_cons.1 h.nod
      exact List.nodup_cons.2 ⟨fun hm9 => hnod.1 (List.mem_cons_of_mem _ hm9), (List.nodup_cons.1 hnod.2).2⟩
  exact ⟨sa, cap, c2, by rw [← hl]; exact hcap, ⟨_, _, hC.below ((Below.refl _ _).drew)⟩, (h.kept h.blk 2 _).trans (KpC.of_below ((Below.refl _ _).drew))⟩
/-- .. when a fault is told. -/
theorem CPw.closes {L : Nat} (h : CPw w0 w P (L + 1)) : ∃ sa cap, w.cell? ⟨P, 2, none⟩ = some (.slice sa (L + 1) cap) ∧ w.frozen? ⟨P, 2, none⟩ = false ∧ L + 1 ≤ cap ∧ CPw w0 ((w.drew).setCell ⟨P, 2, none⟩ (.slice sa L cap)) P L ∧ KpC w ((w.drew).setCell ⟨P, 2, none⟩ (.slice sa L cap)) := by
  obtain ⟨⟨x0, x1, x3, sa, cap, h1, h2⟩, h3, h4⟩ := h
  refine ⟨sa, cap, box_cell h1 rfl, box_free h1, h2, ⟨⟨x0, x1, x3, sa, cap, ?_, by omega⟩, h3, (h4.drew).setCell (p := ⟨P, 2, none⟩) h3 _⟩, ⟨fun k o e hbd => ?_⟩⟩
  · have hh : (w.drew).heap[P]? = _ := h1
    simp [World.setCell, Array.getElem?_modify, hh]
  · refine Below.heap_setCell _ _ _ _ (fun he => hbd ?_)
    have he' : k = P := he
    rw [he', h1] at e
    rw [← Option.some.inj e]
    exact Or.inl ⟨_, _, Or.inr (Or.inl rfl)⟩
attribute [local go_sem ↓] appS_eq
set_option maxRecDepth 100000 in
set_option maxHeartbeats 3200000 in
theorem cblock_any (h : CPs w0 w a c rows P v ms cm s) (hlen : s.sc.length ≤ 10000) (ka : Option Addr) (kn kc : Nat) {Rk : CRes} (hWA : ∀ W v' ms' cm', CPs w0 W a c rows P v' ms' cm' { s with sc := [] :: s.sc } → Calls Tryz.prog 105 #[.pointer (some ⟨P, 0, none⟩), .slice ka kn kc] W fun e w' => PQ w0 a c rows P (s.sc.length + 1) Rk e w' ∧ KpC W w') (hRk : ∀ s', Rk = .ok s' → s'.sc.tail = s.sc ∧ s'.sc ≠ []) :
    Calls Tryz.prog 103 #[.pointer (some ⟨P, 0, none⟩), .slice ka kn kc] w fun e w' => PQ w0 a c rows P s.sc.length (Rk.and fun s' => .ok { s' with sc := s'.sc.tail }) e w' ∧ KpC w w' := by
  obtain ⟨va, vc, g, cap, w3, e1, r1, ⟨u, u2⟩, f2, ⟨v1, hP1⟩, hK1⟩ := h.opens (by rw [h.len]; omega)
  have c2 := h.c2
  rw [e1] at c2
  have c2u := fun o => cell_up c2 o
  obtain ⟨W1, hW1⟩ : ∃ W1, w3.setCell ⟨P, 2, none⟩ (.slice (some ⟨g, 0, none⟩) (ms.length + 1) cap) = W1 := ⟨_, rfl⟩
  rw [hW1] at hP1 hK1
  have HX : Hid (Calls Tryz.prog 105 #[.pointer (some ⟨P, 0, none⟩), .slice ka kn kc] W1 fun e w' => PQ w0 a c rows P (s.sc.length + 1) Rk e w' ∧ KpC W1 w') := hWA W1 v1 _ cm hP1
  have hmk := mkScp
  have HW1 := Hid.out (p := Hid _) hW1
  have HK1 := Hid.out (p := Hid _) hK1
  obtain ⟨n, hn⟩ : ∃ n, n = ms.length := ⟨_, rfl⟩
  rw [← hn] at c2 c2u r1 HW1
  have hn5 : n ≤ 10000 := by rw [hn, h.len]; exact hlen
  obtain ⟨L, hL⟩ : ∃ L, L = s.sc.length := ⟨_, rfl⟩
  rw [← hL] at HX ⊢
  have hL5 : L ≤ 100000 := by omega
  have HRK := Hid.out (p := Hid _) hRk
  have HLL := Hid.out (p := Hid _) hL
  clear h hWA hP1 hK1 hW1 e1 hn hlen hL hRk
  cases Rk with
  | error f =>
    go_enter_defers Tryz.func103, Tryz.ntmps103
    go_wp2_with fail
    rw [HW1.out]
    refine Calls.mono HX.out ?_
    rintro e w2 ⟨⟨rfl, hw⟩, hk2⟩
    obtain ⟨sa, cap2, q2, qf, hcap, hw3, hk3⟩ := hw.closes
    refine leaves_cons (f := 123) (args := #[.pointer (some ⟨P, 0, none⟩)]) (by simp) (by simp [go_sem]) ?_
    refine (cleave_d w2 P L cap2 sa (.panicking (badF f)) q2 qf hcap hL5).mono ?_
    rintro e u' w'' ⟨rfl, rfl, rfl⟩
    exact ⟨⟨rfl, hw3⟩, (HK1.out.trans hk2).trans hk3⟩
  | ok s' =>
    go_enter_defers Tryz.func103, Tryz.ntmps103
    go_wp2_with fail
    rw [HW1.out]
    refine Calls.mono HX.out ?_
    rintro e w2 ⟨⟨rfl, v2, ms2, cm2, hP2⟩, hk2⟩
    obtain ⟨ht, hne⟩ := HRK.out s' rfl
    have hsc := sc_cons hne
    rw [ht] at hsc
    obtain ⟨sa, cap2, q2, hcap, ⟨v3, ms3, hP3⟩, hk3⟩ := hP2.closes hsc
    have qf := hP2.fz 2
    rw [← HLL.out] at q2 hcap hP3 hk3
    have HZ : Hid ((∃ v' ms' cm', CPs w0 ((w2.drew).setCell ⟨P, 2, none⟩ (.slice sa L cap2)) a c rows P v' ms' cm' { s' with sc := s'.sc.tail }) ∧ KpC w ((w2.drew).setCell ⟨P, 2, none⟩ (.slice sa L cap2))) := ⟨⟨v3, ms3, cm2, by rw [ht]; exact hP3⟩, (HK1.out.trans hk2).trans hk3⟩
    have HQ := Hid.out (p := Hid _) (And.intro q2 (And.intro qf hcap))
    clear hP2 hk2 hsc hP3 hk3 ht hne q2 qf hcap
    go_wp2_with fail
    refine leaves_cons (f := 123) (args := #[.pointer (some ⟨P, 0, none⟩)]) (by simp) (by simp [go_sem]) ?_
    refine (cleave_d w2 P L cap2 sa .returning HQ.out.1 HQ.out.2.1 HQ.out.2.2 hL5).mono ?_
    rintro e u' w'' ⟨rfl, rfl, rfl⟩
    exact ⟨_, results_none rfl _ _ _, ⟨rfl, HZ.out.1⟩, HZ.out.2⟩
end
end

section
open Go.RowKit

theorem words_two_s {E : Int} {d : Nat} {l : List Tok} {y z : List UInt8} (h2 : shB y) : wordsR E (d + 1) [y, z] l = match takeT E y l with
    | .error q => .error q
    | .ok r => wordsR E d [z] r := by
  have h1 : ¬ opB y := by rcases h2 with rfl | rfl <;> decide
  rw [wordsR, takeT]
  split
  · rw [if_neg (fun h => h1 h.1)]
    unfold stepD
    rw [if_neg h1, if_pos h2]
    rfl
  · rfl
/-- What a function leaves that hands kids back. -/
def KdQ (C : Cx9) (w : World) (d : Nat) (bx : Option (Nat × Obj)) (rows : List Row) (r : TRes (List Nd)) (e : Ending) : Prop :=
  match r with
  | .ok (xs, q) => ∃ g n, e = .returned (.slice (some ⟨g, 0, none⟩) n n) ∧ GoP C w d bx [(idxs rows.length xs, .slice (some ⟨g, 0, none⟩) n n)] q (rows ++ flats rows.length xs)
  | .error f => e = .panicked (badF f) ∧ FrP C w

section
variable {E : Int} {d : Nat} {l : List Tok}
set_option maxRecDepth 100000 in
set_option maxHeartbeats 1600000 in
theorem qofLock (k : Int) {t : Tok} {r : List Tok} (hpl : ¬ opB t.text ∧ ¬ shB t.text) : Cpr 136 [.int .i64 k] E d (t :: r) (bindL (openT E [40] d r) fun r => bindT (nameT E r) fun s r => bindL (takeT E [41] r) fun r => bindL (takeT E [59] r) fun q => .ok (.mk k 0 t.pos s [], q)) := by
  refine cpr_of fun C w rows hE hg => ?_
  subst hE
  have hfw := hg.fewR
  have hst : stepD t.text d = d := by unfold stepD; rw [if_neg hpl.1, if_neg hpl.2]
  have HT := Hid.out (p := Hid _) (qtake_any hg (fun h => absurd h hpl.1) (fun h => absurd h hpl.2))
  have HST := Hid.out (p := Hid _) hst
  have hfd := fld2
  have hfd3 := fld3
  obtain ⟨R, hR⟩ : ∃ R : TRes Nd, R = bindL (openT C.E [40] d r) fun r => bindT (nameT C.E r) fun s r => bindL (takeT C.E [41] r) fun r => bindL (takeT C.E [59] r) fun q => .ok (.mk k 0 t.pos s [], q) := ⟨_, rfl⟩
  rw [← hR]
  clear hg hpl hst
  go_enter Tryz.func136, Tryz.ntmps136
  go_wp2_with (go_at_call 88; refine Calls.mono HT.out ?_; rintro e w1 ⟨rfl, hg, -⟩; rw [HST.out] at hg; have HG1 := Hid.out (p := Hid _) hg; clear hg)
  have hg1 := HG1.out.box (.cells #[.int .i64 k, .int .i64 0, .int .i64 t.pos, .string ⟨#[]⟩, nilV] 53)
  refine Calls.mono (qword1g hg1 (w1.heap.size + 1) (by simp) ⟨#[40]⟩ (lit_sign (by decide)) (fun h => absurd h (by decide)) _ (words_open (Or.inl rfl))) ?_
  intro e w2 hq
  change WdQ C _ _ _ _ (liftD (openT C.E [40] d r) (d + 1)) e w2 at hq
  cases ht1 : openT C.E [40] d r with
  | error f =>
    rw [ht1] at hq hR
    obtain ⟨rfl, hf⟩ := hq
    subst hR
    exact ⟨rfl, rfl, hf⟩
  | ok r1 =>
    rw [ht1] at hq hR
    obtain ⟨rfl, hg, -⟩ := hq
    simp only [bindL] at hR
    have k1 := open_len ht1
    cases hn : nameT C.E r1 with
    | error f =>
      obtain ⟨hf5, hk⟩ := name_no9 hn
      rw [hn] at hR
      have HK := Hid.out (p := Hid _) (qkind_no hg 1 hk)
      clear hg hg1
      go_wp2_with fail
      refine Calls.mono HK.out ?_
      rintro e w3 ⟨rfl, hf⟩
      subst hf5 hR
      exact ⟨rfl, rfl, hf⟩
    | ok y =>
      obtain ⟨s, r2⟩ := y
      have k2 := name_len hn
      obtain ⟨t2, rfl, hkt, rfl⟩ := name_ok9 hn
      rw [hn] at hR
      simp only [bindT] at hR
      have HK := Hid.out (p := Hid _) (qkind_yes hg 1 hkt (Or.inl rfl))
      clear hg hg1
      go_wp2_with fail
      refine Calls.mono HK.out ?_
      rintro e w3 ⟨rfl, hg3, -⟩
      obtain ⟨hb3, hbP, hbl⟩ := hg3.bxc
      have hbP2 : ¬ C.P = w1.heap.size := fun e => hbP e.symm
      obtain ⟨b0, b1, b2, b3, b4, bf⟩ := box5 hb3
      have HG3 := Hid.out (p := Hid _) hg3
      clear hg3 hb3
      go_wp2_with fail
      have hg4 := HG3.out.set3 (.string ⟨⟨t2.text⟩⟩)
      refine Calls.mono (qword2g hg4 w3.heap.size (by rw [set_size]) ⟨#[41]⟩ ⟨#[59]⟩ (lit_sign (by decide)) (lit_sign (by decide)) ⟨fun _ => Nat.le_add_left 1 d, ⟨fun h => absurd h (by decide), trivial⟩⟩ _ (words_two_s (Or.inl rfl))) ?_
      intro e w4 hq
      change WdQ C _ _ _ _ (match takeT C.E [41] r2 with
          | .error q => .error q
          | .ok r => wordsR C.E d [[59]] r) e w4 at hq
      cases ht3 : takeT C.E [41] r2 with
      | error f =>
        rw [ht3] at hq hR
        obtain ⟨rfl, hf⟩ := hq
        subst hR
        exact ⟨rfl, rfl, hf⟩
      | ok r3 =>
        rw [ht3] at hq hR
        simp only at hR
        simp only at hq
        rw [words_one (by decide) (by decide)] at hq
        cases ht4 : takeT C.E [59] r3 with
        | error f =>
          rw [ht4] at hq hR
          obtain ⟨rfl, hf⟩ := hq
          subst hR
          exact ⟨rfl, rfl, hf⟩
        | ok p =>
          rw [ht4] at hq hR
          obtain ⟨rfl, hg, -⟩ := hq
          have k3 := take_len ht3
          have k4 := take_len ht4
          obtain ⟨hb6, -, hbl6⟩ := hg.bxc
          obtain ⟨d0, d1, d2, d3, d4, df⟩ := box5 hb6
          have HG6 := Hid.out (p := Hid _) hg
          have HR := Hid.out (p := Hid _) hR
          have hfe : rows.length + 1 + p.length ≤ C.T.length := by
            have := hfw.1
            simp only [List.length_cons] at this k1 k2
            omega
          clear hg hR hb6 hg4 b0 b1 b2 b3 b4 bf
          go_wp2_with fail
          refine Calls.mono (qadd HG6.out k 0 t.pos t2.text [] none 0 0 (Or.inr ⟨rfl, rfl⟩) hfe) ?_
          rintro e w7 ⟨rfl, hg7⟩
          have HG7 := Hid.out (p := Hid _) hg7.drop
          clear hg7
          go_wp2_with fail
          go_ret
          rw [HR.out]
          refine ⟨by rw [size_none]; simp, ?_⟩
          simpa [flat, flats, idxs] using HG7.out
set_option maxRecDepth 100000 in
set_option maxHeartbeats 1600000 in
theorem qcas {C : Cx9} {w : World} {bx : Option (Nat × Obj)} {rows : List Row} (hg : GoP C w d bx [] l rows) (R : TRes (List Nd)) (hR : R = bindL (takeT C.E wCas l) fun r => bindL (openT C.E [40] d r) fun r => bindT (nmT C.E r) fun a q => bindL (takeT C.E [44] q) fun q => etT C.E (d + 1) [44] q fun b q => etT C.E (d + 1) [41] q fun c q => .ok ([a, b, c], q)) :
    Calls Tryz.prog 151 #[.pointer (some ⟨C.P, 0, none⟩)] w fun e w' => KdQ C w' d bx rows R e := by
  have HW := Hid.out (p := Hid _) (qword2 hg ⟨#[99, 97, 115]⟩ ⟨#[40]⟩ (lit_word (by decide)) (lit_sign (by decide)) ⟨fun h => absurd h (by decide), ⟨fun h => absurd h (by decide), trivial⟩⟩ _ (words_two (by decide) (by decide)))
  clear hg
  go_enter Tryz.func151, Tryz.ntmps151
  go_wp2_with fail
  refine Calls.mono HW.out ?_
  intro e w1 hq
  change WdQ C _ _ _ _ (match takeT C.E wCas l with
      | .error q => .error q
      | .ok r => wordsR C.E d [[40]] r) e w1 at hq
  cases ht1 : takeT C.E wCas l with
  | error f =>
    rw [ht1] at hq hR
    obtain ⟨rfl, hf⟩ := hq
    subst hR
    exact ⟨rfl, rfl, hf⟩
  | ok r0 =>
    rw [ht1] at hq hR
    simp only [bindL] at hR
    simp only at hq
    rw [words_open (Or.inl rfl)] at hq
    cases ht2 : openT C.E [40] d r0 with
    | error f =>
      rw [ht2] at hq hR
      obtain ⟨rfl, hf⟩ := hq
      subst hR
      exact ⟨rfl, rfl, hf⟩
    | ok r1 =>
      rw [ht2] at hq hR
      obtain ⟨rfl, hg, -⟩ := hq
      simp only at hR
      have HX := Hid.out (p := Hid _) (qname (E := C.E) (l := r1) (d := d + 1) C w1 bx [] rows rfl hg)
      clear hg
      go_wp2_with fail
      refine Calls.mono (HX.out) ?_
      intro e w2 hq
      cases hx1 : nmT C.E r1 with
      | error f =>
        rw [hx1] at hq hR
        obtain ⟨rfl, hf⟩ := hq
        subst hR
        exact ⟨rfl, rfl, hf⟩
      | ok y =>
        obtain ⟨a, q2⟩ := y
        rw [hx1] at hq hR
        obtain ⟨rfl, hg⟩ := hq
        simp only [bindT] at hR
        obtain ⟨va, hva⟩ : ∃ v, v = ((rows.length + ndSize a : Nat) : Int) - 1 := ⟨_, rfl⟩
        rw [← hva]
        have HVA := Hid.out (p := Hid _) hva
        have HG2 := Hid.out (p := Hid _) hg
        clear hg hva HX
        go_wp2_with fail
        refine Calls.mono (qword1 HG2.out ⟨#[44]⟩ (lit_sign (by decide)) (fun h => absurd h (by decide)) _ (words_one (by decide) (by decide))) ?_
        intro e w3 hq
        change WdQ C _ _ _ _ (liftD (takeT C.E [44] q2) (d + 1)) e w3 at hq
        cases ht2 : takeT C.E [44] q2 with
        | error f =>
          rw [ht2] at hq hR
          obtain ⟨rfl, hf⟩ := hq
          subst hR
          exact ⟨rfl, rfl, hf⟩
        | ok q3 =>
          rw [ht2] at hq hR
          obtain ⟨rfl, hg, -⟩ := hq
          simp only [bindL, etT] at hR
          have HX := Hid.out (p := Hid _) (qexpr0 (E := C.E) q3 (d + 1) C w3 bx [] _ rfl hg)
          clear hg
          go_wp2_with fail
          refine Calls.mono (HX.out) ?_
          intro e w4 hq
          cases hx3 : exprT C.E 0 (d + 1) q3 with
          | error f =>
            rw [hx3] at hq hR
            obtain ⟨rfl, hf⟩ := hq
            subst hR
            exact ⟨rfl, rfl, hf⟩
          | ok y =>
            obtain ⟨b, q4⟩ := y
            rw [hx3] at hq hR
            obtain ⟨rfl, hg⟩ := hq
            simp only [bindT] at hR
            obtain ⟨vb, hvb⟩ : ∃ v, v = (((rows ++ flat rows.length a).length + ndSize b : Nat) : Int) - 1 := ⟨_, rfl⟩
            rw [← hvb]
            have HVB := Hid.out (p := Hid _) hvb
            have HG4 := Hid.out (p := Hid _) hg
            clear hg hvb HX
            go_wp2_with fail
            refine Calls.mono (qword1 HG4.out ⟨#[44]⟩ (lit_sign (by decide)) (fun h => absurd h (by decide)) _ (words_one (by decide) (by decide))) ?_
            intro e w5 hq
            change WdQ C _ _ _ _ (liftD (takeT C.E [44] q4) (d + 1)) e w5 at hq
            cases ht4 : takeT C.E [44] q4 with
            | error f =>
              rw [ht4] at hq hR
              obtain ⟨rfl, hf⟩ := hq
              subst hR
              exact ⟨rfl, rfl, hf⟩
            | ok q5 =>
              rw [ht4] at hq hR
              obtain ⟨rfl, hg, -⟩ := hq
              simp only at hR
              have HX := Hid.out (p := Hid _) (qexpr0 (E := C.E) q5 (d + 1) C w5 bx [] _ rfl hg)
              clear hg
              go_wp2_with fail
              refine Calls.mono (HX.out) ?_
              intro e w6 hq
              cases hx5 : exprT C.E 0 (d + 1) q5 with
              | error f =>
                rw [hx5] at hq hR
                obtain ⟨rfl, hf⟩ := hq
                subst hR
                exact ⟨rfl, rfl, hf⟩
              | ok y =>
                obtain ⟨c, q6⟩ := y
                rw [hx5] at hq hR
                obtain ⟨rfl, hg⟩ := hq
                simp only at hR
                obtain ⟨vc, hvc⟩ : ∃ v, v = (((rows ++ flat rows.length a ++ flat (rows ++ flat rows.length a).length b).length + ndSize c : Nat) : Int) - 1 := ⟨_, rfl⟩
                rw [← hvc]
                have HVC := Hid.out (p := Hid _) hvc
                have HG6 := Hid.out (p := Hid _) hg
                clear hg hvc HX
                go_wp2_with fail
                refine Calls.mono (qword1 HG6.out ⟨#[41]⟩ (lit_sign (by decide)) (fun _ => Nat.le_add_left 1 d) _ (words_shut (Or.inl rfl))) ?_
                intro e w7 hq
                change WdQ C _ _ _ _ (liftD (takeT C.E [41] q6) d) e w7 at hq
                cases ht6 : takeT C.E [41] q6 with
                | error f =>
                  rw [ht6] at hq hR
                  obtain ⟨rfl, hf⟩ := hq
                  subst hR
                  exact ⟨rfl, rfl, hf⟩
                | ok p =>
                  rw [ht6] at hq hR
                  obtain ⟨rfl, hg, -⟩ := hq
                  skip
                  have HG7 := Hid.out (p := Hid _) hg
                  have HR := Hid.out (p := Hid _) hR
                  clear hg hR
                  go_wp2_with fail
                  go_ret
                  rw [HR.out]
                  refine ⟨w7.heap.size, 3, rfl, ?_⟩
                  have hk := HG7.out.kids [va, vb, vc] 3 rfl (by decide) #[.int .i64 va, .int .i64 vb, .int .i64 vc] rfl (by decide) w7.heap.size rfl
                  have h1 : idxs rows.length [a, b, c] = [va, vb, vc] := by
                    rw [HVA.out, HVB.out, HVC.out]
                    simp only [idxs, List.length_append, flat_len]
                  have h2 : rows ++ flats rows.length [a, b, c] = rows ++ flat rows.length a ++ flat (rows ++ flat rows.length a).length b ++ flat (rows ++ flat rows.length a ++ flat (rows ++ flat rows.length a).length b).length c := by
                    simp only [flats, List.length_append, flat_len, List.append_nil, List.append_assoc, Nat.add_assoc]
                  rw [h1, h2]
                  exact hk
end
end

end Go.Proofs.YtclnjhffcfkihaeGreatDoor
