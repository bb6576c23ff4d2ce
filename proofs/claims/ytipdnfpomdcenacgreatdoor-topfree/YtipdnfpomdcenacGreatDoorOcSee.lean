/-
  Outcomes are noted down while the program goes through states.
  Those who look on note outcomes down.
  The list of outcomes is sorted, and of like ones one stays.
  All clashes that were noted down, rising, by the program.
-/
import Derived.Test.YtipdnfpomdcenacGreatDoorRcTd
import Derived.Deep.RegionWith
import Derived.Test.YtipdnfpomdcenacGreatDoorOcComp2
import Derived.Shelf.SlSortCmp.NoneTotal
import Derived.Test.YtipdnfpomdcenacGreatDoorRcPl
import Derived.Maps.RangeWalk
namespace Go.Proofs.YtipdnfpomdcenacGreatDoor
section
open Go.RowKit Go.Sort Go.Shelf

theorem OlI.push_at {W : World} {B km lb : Nat} {es : List En} (h : OlI W B km lb es) (hB : B ≤ W.heap.size) {n : Nat} (hn : es.length = n) (hlen : n ≤ 90000) (e : En) (he : EnJ W B e) {a : Option Addr} {c : Nat} (hc : W.cell? ⟨lb, 0, none⟩ = some (.slice a n c)) : 
    ∃ g cap w3, (AppS #[40, 40] 40 #[.slice a n c, .slice (some ⟨W.heap.size, 0, none⟩) 1 1]).run Tryz.prog (W.alloc (.cells #[.int .i64 e.o.st, .slice e.wa e.o.ws.length e.wc, .slice e.pa e.o.pr.length e.pc] 61)) = .ok (.slice (some ⟨g, 0, none⟩) (n + 1) cap) w3 ∧ w3.cell? ⟨lb, 0, none⟩ = some (.slice a n c) ∧ w3.frozen? ⟨lb, 0, none⟩ = false ∧
      Hid (OlI (w3.setCell ⟨lb, 0, none⟩ (.slice (some ⟨g, 0, none⟩) (n + 1) cap)) B km lb (es ++ [e]) ∧ Fr B (NO km) W (w3.setCell ⟨lb, 0, none⟩ (.slice (some ⟨g, 0, none⟩) (n + 1) cap))) := by
  subst hn
  obtain ⟨a', c', h1, h2⟩ := h.push hB hlen e he
  rw [hc] at h1
  simp only [Option.some.injEq, Value.slice.injEq, true_and] at h1
  obtain ⟨rfl, rfl⟩ := h1
  exact h2

attribute [local go_sem ↓] appS_eq
set_option maxRecDepth 100000 in
set_option maxHeartbeats 1600000 in
/-- One fell. -/
theorem ofell_any (c : Wc) (lb : Nat) (W : World) (es : List En) (sb mb bb : Nat) (v : Rp → Value) (s : Sx) (hI : OlI W c.B c.km lb es) (hl : es.length ≤ 90000) (hq : QSt W 0 (c.Q.at bb) sb mb v s) (hp : s.prints.length ≤ 100000) (hB : c.B ≤ W.heap.size) :
    Calls Tryz.prog 79 #[.pointer (some ⟨sb, 0, none⟩), .pointer (some ⟨lb, 0, none⟩)] W fun e W' => e = .returned (.tuple #[]) ∧ Fr c.B (NO c.km) W W' ∧ ∃ x, x.o = ⟨1, [], s.prints⟩ ∧ OlI W' c.B c.km lb (es ++ [x]) := by
  obtain ⟨a, cp, hbx, _, _⟩ := hI.box
  have hcell : W.cell? ⟨lb, 0, none⟩ = some (.slice a es.length cp) := box_cell hbx rfl
  have HC : Hid (∀ V, Below W.heap.size W V → Calls Tryz.prog 78 #[.pointer (some ⟨sb, 0, none⟩)] V fun e w' => ∃ a c, e = .returned (.slice a s.prints.length c) ∧ w'.ownsRow V.heap.size 3 1 (.slice a s.prints.length c) s.prints.length (intsV s.prints) ∧ Below V.heap.size V w') := fun V hb => prints_any V 0 (c.Q.at bb) sb mb v s (hq.below hb) (by omega)
  have HI := Hid.out (p := Hid _) (And.intro hI hB)
  have HPL : Hid (s.prints.length ≤ 100000) := hp
  obtain ⟨n, hn⟩ : ∃ n, es.length = n := ⟨_, rfl⟩
  have HN : Hid (es.length = n) := hn
  obtain ⟨pn, hpn⟩ : ∃ n, s.prints.length = n := ⟨_, rfl⟩
  have HPN : Hid (s.prints.length = pn) := hpn
  rw [hn] at hcell hl
  rw [hpn] at HC
  have HFIN : Hid (∀ w2 pa pcc, w2.ownsRow W.drew.heap.size 3 1 (.slice pa pn pcc) pn (intsV s.prints) → Below W.drew.heap.size W.drew w2 → w2.cell? ⟨lb, 0, none⟩ = some (.slice a n cp) ∧ ∃ g cap w3, (AppS #[40, 40] 40 #[.slice a n cp, .slice (some ⟨w2.heap.size, 0, none⟩) 1 1]).run Tryz.prog (w2.alloc (.cells #[.int .i64 1, nilV, .slice pa pn pcc] 61)) = .ok (.slice (some ⟨g, 0, none⟩) (n + 1) cap) w3 ∧ w3.cell? ⟨lb, 0, none⟩ = some (.slice a n cp) ∧ w3.frozen? ⟨lb, 0, none⟩ = false ∧
      Hid (∃ x, x.o = ⟨1, [], s.prints⟩ ∧ OlI (w3.setCell ⟨lb, 0, none⟩ (.slice (some ⟨g, 0, none⟩) (n + 1) cap)) c.B c.km lb (es ++ [x]) ∧ Fr c.B (NO c.km) W (w3.setCell ⟨lb, 0, none⟩ (.slice (some ⟨g, 0, none⟩) (n + 1) cap)))) := fun w2 pa pcc h1 h2 => by
    have hb : Below W.heap.size W w2 := (Below.refl _ _).drew.trans h2
    have hc2 := (hb.cell (lt_of_cell hcell)).trans hcell
    refine ⟨hc2, ?_⟩
    have hJ : EnJ w2 c.B ⟨⟨1, [], s.prints⟩, none, 0, pa, pcc⟩ := ⟨World.ownsRow_nil _ _ _ _, by
      show World.ownsRow _ _ _ _ (.slice pa s.prints.length pcc) s.prints.length _
      rw [hpn]
      exact own_low h1 hB, Nat.zero_le _, hp⟩
    obtain ⟨g, cap, w3, r1, z1, z2, HH⟩ := (hI.below hB hb).push_at (Nat.le_trans hB hb.size) hn hl _ hJ hc2
    refine ⟨g, cap, w3, ?_, z1, z2, ⟨_, rfl, HH.out.1, (Fr.of_below hB hb).trans HH.out.2⟩⟩
    rw [← hpn]
    exact r1
  clear hI hbx hq hB hn hpn hp
  go_enter Tryz.func79, Tryz.ntmps79
  go_wp2_with fail
  go_region_with (go_at_call 78; refine Calls.mono (HC.out _ (Below.refl _ _).drew) ?_; rintro e w2 ⟨pa, pcc, rfl, ho2, hb2⟩; have HI2 := HFIN.out w2 pa pcc ho2 hb2; clear ho2 hb2; obtain ⟨z0, g, cap, w3, r1, z1, z2, HR⟩ := HI2; have z4 := cell_up z0)
  all_goals go_end0
  all_goals obtain ⟨x, hx, h1, h2⟩ := HR.out
  all_goals exact ⟨rfl, h2, x, hx, h1⟩
/-- What is noted of one that is seen. -/
def SeeQ (c : Wc) (lb : Nat) (W : World) (es : List En) (s : Sx) (W' : World) : Prop := Fr c.B (NO c.km) W W' ∧ ∃ es', OlI W' c.B c.km lb es' ∧ es'.length ≤ es.length + 1 ∧ ∀ o, o ∈ es'.map En.o ↔ o ∈ es.map En.o ∨ (movesX c.Q.L c.X c.mode s = [] ∧ o = ⟨if endedX c.Q.L s then 0 else 2, s.words, s.prints⟩)
set_option maxRecDepth 100000 in
set_option maxHeartbeats 3200000 in
/-- One is seen. -/
theorem osee_any (c : Wc) (hc : WcOk c) (lb : Nat) (W : World) (es : List En) (sb mb bb : Nat) (v : Rp → Value) (s : Sx) (k : Nat) (hI : OlI W c.B c.km lb es) (hl : es.length ≤ 90000) (hq : QSt W 0 (c.Q.at bb) sb mb v s) (hs : StP c k s) (hk : k ≤ 4500) (hlow : Below c.B c.w0 W) :
    Calls Tryz.prog 76 #[.pointer (some ⟨sb, 0, none⟩), .pointer (some ⟨lb, 0, none⟩)] W fun e W' => e = .returned (.tuple #[]) ∧ SeeQ c lb W es s W' := by
  have hB : c.B ≤ W.heap.size := by rw [hc.Bw]; exact hlow.size
  have HP : Hid (Calls Tryz.prog 58 #[.pointer (some ⟨sb, 0, none⟩)] W fun e w' => ∃ a len cp, e = .returned (.slice a len cp) ∧ (movesX c.Q.L c.X c.mode s).length = len ∧ Below W.heap.size W w') := by
    refine (picks_any W 0 (c.Q.at bb) sb mb v s c.ca c.X c.n c.m c.lk c.rg hc.n0 hq hc.hM (Nat.zero_le _) hc.nt hs.ok hc.cok (hc.prog.below (by have := hlow; rw [hc.Bw] at this; exact this))).mono ?_
    rintro e w' ⟨a, len, cp, he, hp, hb⟩
    exact ⟨a, len, cp, he, hp.is, hb⟩
  have hm16 : (movesX c.Q.L c.X c.mode s).length ≤ 16 := by
    have h1 := mvsT_len c.Q.L c.X c.mode s (fun t ht => hs.ok.wlen t (by rw [← hs.ok.ths]; exact ht)) s.ths.length (Nat.le_refl _)
    rw [mvsT_all] at h1
    have h2 := hs.ok.ths
    have h3 := hc.cok.n4
    omega
  obtain ⟨ML, hML⟩ : ∃ n, (movesX c.Q.L c.X c.mode s).length = n := ⟨_, rfl⟩
  have HML : Hid ((movesX c.Q.L c.X c.mode s).length = ML) := hML
  rw [hML] at HP hm16
  by_cases hz : ML = 0
  · subst hz
    have hnil : movesX c.Q.L c.X c.mode s = [] := List.eq_nil_of_length_eq_zero hML
    obtain ⟨st, hst⟩ : ∃ st : Int, (if endedX c.Q.L s then 0 else 2) = st := ⟨_, rfl⟩
    have HRE : Hid (∀ V, Below W.heap.size W V → Calls Tryz.prog 77 #[.pointer (some ⟨sb, 0, none⟩)] V fun e w' => e = .returned (.int .i64 st) ∧ Below V.heap.size V w') := fun V hb => by
      have h := rest_any V 0 (c.Q.at bb) sb mb v s c.n (hq.below hb) hs.ok.ths hc.n0 hc.cok.n4 hc.cok.L4 hs.ok.pc
      rw [← ended_bare (fun t ht => moves_bare hnil ht)] at h
      rw [← hst]
      exact h
    have HWO : Hid (∀ V, Below W.heap.size W V → Calls Tryz.prog 160 #[.pointer (some ⟨mb, 0, none⟩)] V fun e w' => ∃ a cap, e = .returned (.slice a s.words.length cap) ∧ w'.ownsRow V.heap.size 3 1 (.slice a s.words.length cap) s.words.length (intsV s.words) ∧ Below V.heap.size V w') := fun V hb => words_any V 0 (c.Q.at bb) sb mb v s (hq.below hb) (by rw [hs.ok.words]; exact hc.cok.m64)
    have HPR : Hid (∀ V, Below W.heap.size W V → Calls Tryz.prog 78 #[.pointer (some ⟨sb, 0, none⟩)] V fun e w' => ∃ a c, e = .returned (.slice a s.prints.length c) ∧ w'.ownsRow V.heap.size 3 1 (.slice a s.prints.length c) s.prints.length (intsV s.prints) ∧ Below V.heap.size V w') := fun V hb => prints_any V 0 (c.Q.at bb) sb mb v s (hq.below hb) (by have := hs.pr; omega)
    have HMW : Hid (∀ V, Below W.heap.size W V → (method 346 c.Q.K.tid (.pointer (some ⟨(c.Q.at bb).top mb, 0, none⟩)) "Words").run Tryz.prog V = .ok (160, .pointer (some ⟨mb, 0, none⟩)) V) := fun V hb => hc.hM.mWords V 0 (c.Q.at bb) sb mb v s rfl (hq.below hb)
    have HC0 : Hid (∀ V, Below W.heap.size W V → V.cell? ⟨sb, 0, none⟩ = some (.iface c.Q.K.tid (.pointer (some ⟨(c.Q.at bb).top mb, 0, none⟩)))) := fun V hb => (hq.below hb).c0
    obtain ⟨a, cp, hbx, _, _⟩ := hI.box
    have hcell : W.cell? ⟨lb, 0, none⟩ = some (.slice a es.length cp) := box_cell hbx rfl
    obtain ⟨n, hn⟩ : ∃ n, es.length = n := ⟨_, rfl⟩
    have HN : Hid (es.length = n) := hn
    obtain ⟨pn, hpn⟩ : ∃ n, s.prints.length = n := ⟨_, rfl⟩
    obtain ⟨wn, hwn⟩ : ∃ n, s.words.length = n := ⟨_, rfl⟩
    rw [hn] at hcell hl
    have HFIN : Hid (∀ w3 w4 b wa wcc pa pcc, W.heap.size ≤ b → w3.ownsRow b 3 1 (.slice wa wn wcc) wn (intsV s.words) → Below W.heap.size W w3 → w4.ownsRow w3.heap.size 3 1 (.slice pa pn pcc) pn (intsV s.prints) → Below w3.heap.size w3 w4 → ∃ g cap w5, (AppS #[40, 40] 40 #[.slice a n cp, .slice (some ⟨w4.heap.size, 0, none⟩) 1 1]).run Tryz.prog (w4.alloc (.cells #[.int .i64 st, .slice wa wn wcc, .slice pa pn pcc] 61)) = .ok (.slice (some ⟨g, 0, none⟩) (n + 1) cap) w5 ∧ w5.cell? ⟨lb, 0, none⟩ = some (.slice a n cp) ∧ w5.frozen? ⟨lb, 0, none⟩ = false ∧
        Hid (∃ x, x.o = ⟨st, s.words, s.prints⟩ ∧ OlI (w5.setCell ⟨lb, 0, none⟩ (.slice (some ⟨g, 0, none⟩) (n + 1) cap)) c.B c.km lb (es ++ [x]) ∧ Fr c.B (NO c.km) W (w5.setCell ⟨lb, 0, none⟩ (.slice (some ⟨g, 0, none⟩) (n + 1) cap)))) := fun w3 w4 b wa wcc pa pcc hb0 h1 h2 h3 h4 => by
      have hb : Below W.heap.size W w4 := h2.trans (h4.mono h2.size)
      have hc2 := (hb.cell (lt_of_cell hcell)).trans hcell
      have hJ : EnJ w4 c.B ⟨⟨st, s.words, s.prints⟩, wa, wcc, pa, pcc⟩ := ⟨by
        show World.ownsRow _ _ _ _ (.slice wa s.words.length wcc) s.words.length _
        rw [hwn]
        exact own_low (fam_keeps h1 (fun g hg => h4.block g (h1.lt g hg).2)) (Nat.le_trans hB hb0), by
        show World.ownsRow _ _ _ _ (.slice pa s.prints.length pcc) s.prints.length _
        rw [hpn]
        exact own_low h3 (Nat.le_trans hB h2.size), by
        show s.words.length ≤ _
        rw [hs.ok.words]; have := hc.cok.m64; omega, by
        show s.prints.length ≤ _
        have := hs.pr; omega⟩
      obtain ⟨g, cap, w5, r1, z1, z2, HH⟩ := (hI.below hB hb).push_at (Nat.le_trans hB hb.size) hn hl _ hJ hc2
      refine ⟨g, cap, w5, ?_, z1, z2, ⟨_, rfl, HH.out.1, (Fr.of_below hB hb).trans HH.out.2⟩⟩
      rw [← hpn, ← hwn]
      exact r1
    have HLB : Hid (∀ V, Below W.heap.size W V → V.cell? ⟨lb, 0, none⟩ = some (.slice a n cp)) := fun V hb => (hb.cell (lt_of_cell hcell)).trans hcell
    have HEND : Hid (∀ W', (∃ x, x.o = ⟨st, s.words, s.prints⟩ ∧ OlI W' c.B c.km lb (es ++ [x]) ∧ Fr c.B (NO c.km) W W') → SeeQ c lb W es s W') := fun W' ⟨x, hx, h1, h2⟩ => by
      refine ⟨h2, _, h1, by rw [List.length_append]; exact Nat.le_refl _, fun o => ?_⟩
      rw [List.map_append, List.mem_append, List.map_singleton, List.mem_singleton, hx, hst]
      exact ⟨fun h => h.imp id (fun h => ⟨hnil, h⟩), fun h => h.imp id (·.2)⟩
    rw [hwn] at HWO
    rw [hpn] at HPR
    clear hI hbx hq hB hn hpn hwn hs hk hlow hcell hc hst hML hnil HML
    go_enter Tryz.func76, Tryz.ntmps76
    go_wp2_with fail
    refine Calls.mono HP.out ?_
    rintro e w1 ⟨a1, l1, c1, rfl, rfl, hb1⟩
    have u0 := HC0.out w1 hb1
    have u1 := HLB.out w1 hb1
    clear HP
    go_wp2_with fail
    go_region_with (first | (go_at_call 77; refine Calls.mono (HRE.out _ hb1.drew) ?_; rintro e w2 ⟨rfl, hb2⟩; have hB2 : Below W.heap.size W w2 := hb1.drew.trans (hb2.mono hb1.size); have y0 := HC0.out w2 hB2; have y1 := HLB.out w2 hB2; have y2 := HMW.out w2 hB2) | (go_at_call 160; refine Calls.mono (HWO.out _ hB2) ?_; rintro e w3 ⟨wa, wcc, rfl, ho3, hb3⟩; have hB3 : Below W.heap.size W w3 := hB2.trans (hb3.mono hB2.size); have x1 := HLB.out w3 hB3) | (go_at_call 78; refine Calls.mono (HPR.out _ hB3) ?_; rintro e w4 ⟨pa, pcc, rfl, ho4, hb4⟩; have hB4 : Below W.heap.size W w4 := hB3.trans (hb4.mono hB3.size); have v1 := HLB.out w4 hB4; have v2 := cell_up v1; obtain ⟨g, cap, w5, r1, z1, z2, HR⟩ := HFIN.out w3 w4 _ wa wcc pa pcc hB2.size ho3 hB3 ho4 hb4; clear ho3 ho4))
    all_goals go_end0
    all_goals exact ⟨rfl, HEND.out _ HR.out⟩
  · have hne : movesX c.Q.L c.X c.mode s ≠ [] := fun e => hz (by rw [← hML, e]; rfl)
    have HI : Hid (∀ V, Below W.heap.size W V → SeeQ c lb W es s V) := fun V hb => ⟨Fr.of_below hB hb, es, hI.below hB hb, Nat.le_succ _, fun o => ⟨Or.inl, fun h => h.resolve_right (fun h => hne h.1)⟩⟩
    have hz' : ¬ (ML : Int) = 0 := by omega
    clear hI hq hB hs hk hlow hc hML hne
    go_enter Tryz.func76, Tryz.ntmps76
    go_wp2_with fail
    refine Calls.mono HP.out ?_
    rintro e w1 ⟨a1, l1, c1, rfl, rfl, hb1⟩
    clear HP
    go_wp2_with fail
    go_end0
    exact ⟨rfl, HI.out _ (by first | exact hb1 | exact hb1.drew)⟩
end

section
open Go.RowKit Go.Sort Go.Shelf

section
variable {L : Nat → Nat} {X : Nat → Nat → Nat → Int} {mode : Int} {Z F : List Sx} {s : Sx} {o : Oc}
theorem outc_see : outcX L X mode (Z ++ [s]) F o ↔ outcX L X mode Z F o ∨ (movesX L X mode s = [] ∧ o = ⟨if endedX L s then 0 else 2, s.words, s.prints⟩) := by
  unfold outcX
  constructor
  · rintro (⟨t, ht, h⟩ | h)
    · rcases List.mem_append.mp ht with ht | ht
      · exact Or.inl (Or.inl ⟨t, ht, h⟩)
      · rw [List.mem_singleton.mp ht] at h; exact Or.inr h
    · exact Or.inl (Or.inr h)
  · rintro ((⟨t, ht, h⟩ | h) | h)
    · exact Or.inl ⟨t, List.mem_append_left _ ht, h⟩
    · exact Or.inr h
    · exact Or.inl ⟨s, by simp, h⟩
theorem outc_fell : outcX L X mode Z (F ++ [s]) o ↔ outcX L X mode Z F o ∨ o = ⟨1, [], s.prints⟩ := by
  unfold outcX
  constructor
  · rintro (h | ⟨t, ht, h⟩)
    · exact Or.inl (Or.inl h)
    · rcases List.mem_append.mp ht with ht | ht
      · exact Or.inl (Or.inr ⟨t, ht, h⟩)
      · rw [List.mem_singleton.mp ht] at h; exact Or.inr h
  · rintro ((h | ⟨t, ht, h⟩) | h)
    · exact Or.inl h
    · exact Or.inr ⟨t, List.mem_append_left _ ht, h⟩
    · exact Or.inr ⟨s, by simp, h⟩
end
/-- What was noted down of those that were seen and those that fell. -/
def ObO (c : Wc) (lb : Nat) (W : World) (Z F : List Sx) : Prop := ∃ es, OlI W c.B c.km lb es ∧ (∀ o, o ∈ es.map En.o ↔ outcX c.Q.L c.X c.mode Z F o) ∧ es.length ≤ Z.length + F.length
/-- Outcomes' see and fell. -/
theorem obs_out (c : Wc) (hc : WcOk c) (hty : ∀ r, pTy c.Q.K r ≠ 61 ∧ pTy c.Q.K r ≠ 40) (lb : Nat) : Obs c 76 79 #[.pointer (some ⟨lb, 0, none⟩)] #[.pointer (some ⟨lb, 0, none⟩)] (NO c.km) (ObO c lb) where
  fnS := enters_of Tryz.func76 (by kernel_rfl) rfl
  fnF := enters_of Tryz.func79 (by kernel_rfl) rfl
  n1 k cs t ht := by
    refine no_cells (fun e => ?_) (fun e => ?_)
    · rw [e] at ht; revert ht; unfold wTy; decide
    · rw [e] at ht; revert ht; unfold wTy; decide
  n2 o h := h.1 rfl
  n3 r k cs := no_cells (hty r).1 (hty r).2
  keep W W' Z F h hf := by
    obtain ⟨es, h1, h2⟩ := h
    exact ⟨es, h1.fr hf (fun k c => nw_cells (by unfold wTy; decide)) (fun k c => nw_cells (by unfold wTy; decide)) (fun k c => nw_cells (by unfold wTy; decide)), h2⟩
  see W Z F sb mb bb v s k h hq hs hk hZ hF hlow := by
    obtain ⟨es, h1, h2, h3⟩ := h
    refine Calls.mono (osee_any c hc lb W es sb mb bb v s k h1 (by omega) hq hs hk hlow) ?_
    rintro e W' ⟨he, hfr, es', g1, g2, g3⟩
    refine ⟨he, ⟨es', g1, fun o => ?_, by rw [List.length_append, List.length_singleton]; omega⟩, hfr⟩
    rw [g3 o, h2 o]
    exact outc_see.symm
  fell W Z F sb mb bb v s h hq hp hZ hF hlow := by
    obtain ⟨es, h1, h2, h3⟩ := h
    refine Calls.mono (ofell_any c lb W es sb mb bb v s h1 (by omega) hq (by omega) (by rw [hc.Bw]; exact hlow.size)) ?_
    rintro e W' ⟨he, hfr, x, hx, g1⟩
    refine ⟨he, ⟨es ++ [x], g1, fun o => ?_, by rw [List.length_append, List.length_append, List.length_singleton, List.length_singleton]; omega⟩, hfr⟩
    rw [List.map_append, List.mem_append, h2 o, List.map_singleton, List.mem_singleton, hx]
    exact outc_fell.symm
end

section
open Go.RowKit Go.Sort Go.Shelf

section
variable {w w' : World} {B : Nat} {a : Option Addr} {n c : Nat} {es : List En}
/-- How a list lies. -/
theorem IsO.lies (h : IsO w B a n c es) : (a = none ∧ n = 0 ∧ c = 0) ∨ ∃ g cur, a = some ⟨g, 0, none⟩ ∧ B ≤ g ∧ n ≤ c ∧ w.heap[g]? = some (.cells cur 61) := by
  rcases h.own.2 with ⟨h0, _⟩ | ⟨g, cap, cur, hv, hg, hh, h1, _⟩
  · simp only [Value.slice.injEq] at h0
    exact Or.inl h0
  · simp only [Value.slice.injEq, true_and] at hv
    exact Or.inr ⟨g, cur, hv.1, hg, by rw [hv.2]; exact h1, hh⟩
theorem EnJ.srt {e : En} {g : Nat} {cur : Array Value} (h : EnJ w B e) (hg : w.heap[g]? = some (.cells cur 61)) (hs : Srt B w w' (some ⟨g, 0, none⟩)) : EnJ w' B e := by
  refine ⟨fam_keeps h.ws (fun k hk => hs.kept k (h.ws.lt k hk).2 (fun p hp e => ?_)), fam_keeps h.pr (fun k hk => hs.kept k (h.pr.lt k hk).2 (fun p hp e => ?_)), h.wl, h.pl⟩
  · rw [← Option.some.inj hp] at e
    exact own_type h.ws hg (by decide) (by rw [hk]; exact congrArg some e.symm)
  · rw [← Option.some.inj hp] at e
    exact own_type h.pr hg (by decide) (by rw [hk]; exact congrArg some e.symm)
/-- The list is sorted. -/
theorem sortJ_any (h : IsO w B a es.length c es) (hJ : ∀ e, e ∈ es → EnJ w B e) (hB : B ≤ w.heap.size) (hl : es.length ≤ 100000) :
    Calls Tryz.prog 80 #[.slice a es.length c, .func (.func 51) #[] #[]] w fun e w' => e = .returned (.tuple #[]) ∧ ∃ es', es'.Perm es ∧ es'.Pairwise (fun x y => aheadO y.o x.o = false) ∧ IsO w' B a es.length c es' ∧ (∀ e, e ∈ es' → EnJ w' B e) ∧ Srt B w w' a := by
  rcases Nat.eq_zero_or_pos es.length with h0 | h0
  · have he : es = [] := List.eq_nil_of_length_eq_zero h0
    subst he
    refine Calls.mono (AnyF.slices_SortFunc_none Tryz.sortOc a c _ w) ?_
    rintro e w' ⟨rfl, rfl⟩
    exact ⟨rfl, [], List.Perm.refl _, List.Pairwise.nil, h, hJ, Srt.refl _ _ _⟩
  · rcases h.lies with ⟨_, hz, _⟩ | ⟨g, cur, rfl, _, _, hh⟩
    · omega
    · refine Calls.mono (sort_any w B _ c es h (fun e he p hp => by rw [← Option.some.inj hp]; exact (hJ e he).off hh (by decide)) hB hl h0) ?_
      rintro e w' ⟨rfl, es', h1, h2, h3, h4⟩
      exact ⟨rfl, es', h1, h2, h3, fun e he => (hJ e (h1.mem_iff.mp he)).srt hh h4, h4⟩
end
set_option maxRecDepth 100000 in
set_option maxHeartbeats 800000 in
theorem compact_nil (w : World) :
    Calls Tryz.prog 81 #[nilV, .func (.func 25) #[] #[]] w fun e w' => e = .returned nilV ∧ w' = w := by
  go_enter Tryz.func81, Tryz.ntmps81
  go_wp2_with fail
  go_ret
  exact ⟨rfl, rfl⟩
/-- Of like ones one stays. -/
theorem compactJ_any {w : World} {B : Nat} {a : Option Addr} {c : Nat} {es : List En} (h : IsO w B a es.length c es) (hJ : ∀ e, e ∈ es → EnJ w B e) (hB : B ≤ w.heap.size) (hl : es.length ≤ 100000) :
    Calls Tryz.prog 81 #[.slice a es.length c, .func (.func 25) #[] #[]] w fun e w' => ∃ k es', e = .returned (.slice a k c) ∧ IsO w' B a k c es' ∧ es' = compE es es.length ∧ (∀ e, e ∈ es' → EnJ w' B e) ∧ Srt B w w' a := by
  rcases h.lies with ⟨rfl, hz, rfl⟩ | ⟨g, cur, rfl, hg, hc, hh⟩
  · have he : es = [] := List.eq_nil_of_length_eq_zero hz
    subst he
    refine Calls.mono (compact_nil w) ?_
    rintro e w' ⟨rfl, rfl⟩
    exact ⟨0, [], rfl, h, rfl, hJ, Srt.refl _ _ _⟩
  · refine Calls.mono (compact_any w B g c es h (fun e he => (hJ e he).off hh (by decide)) hB hg hl hc) ?_
    rintro e w' ⟨k, es', rfl, h1, h2, h3⟩
    exact ⟨k, es', rfl, h1, h2, fun e he => (hJ e (by rw [h2] at he; exact compE_mem (Nat.le_refl _) he)).srt hh h3, h3⟩
end

section
open Go.RowKit Go.Sort Go.Shelf

theorem sortCJ_any (w : World) (B : Nat) (a : Option Addr) (c : Nat) (l : List (List Int)) (h : IsC w B a l.length c l) (hB : B ≤ w.heap.size) (hl : l.length ≤ 100000) :
    Calls Tryz.prog 38 #[.slice a l.length c, .func (.func 39) #[] #[]] w fun e w' => e = .returned (.tuple #[]) ∧ ∃ l', l'.Perm l ∧ l'.Pairwise (fun x y => lexL y x = false) ∧ IsC w' B a l.length c l' ∧ Below B w w' := by
  rcases Nat.eq_zero_or_pos l.length with h0 | h0
  · have he : l = [] := List.eq_nil_of_length_eq_zero h0
    subst he
    refine Calls.mono (AnyF.slices_SortFunc_none Tryz.sortCl a c _ w) ?_
    rintro e w' ⟨rfl, rfl⟩
    exact ⟨rfl, [], List.Perm.refl _, List.Pairwise.nil, h, Below.refl _ _⟩
  · refine Calls.mono (sortC_any w B a c l h hB hl h0) ?_
    rintro e w' ⟨rfl, l', h1, h2, h3, h4⟩
    exact ⟨rfl, l', h1, h2, h3, h4.below⟩
theorem sorted_of {l l' : List (List Int)} (hp : l'.Perm l) (hn : l.Nodup) (hs : l'.Pairwise (fun x y => lexL y x = false)) : SortedL l' := by
  have hn' : l'.Nodup := hp.nodup_iff.mpr hn
  unfold SortedL
  have := List.Pairwise.and hs hn'
  refine this.imp fun {x y} h => ?_
  cases e : lexL x y with
  | true => rfl
  | false => exact absurd (lex_tri e h.1) h.2
theorem unit_inv (v : Value) (y : DataW Unit × List MemPlace) (h : unitElem v = some y) : ∃ _c : Unit, v = .agg #[] := ⟨(), (unitElem_inv h).1⟩
theorem ranges_low {P : Program} {k : TypeId} {R : Value → Option (DataW Unit × List MemPlace)} {w w' : World} {B b r n : Nat} {D : DataW Unit} {left : Lit → Bool} {cnt : Nat} (h : w.ranges P k R b r n D left cnt) (hb : Below B w w') (h1 : b < B) (h2 : r < B) : w'.ranges P k R b r n D left cnt := by
  obtain ⟨es, clock, since, seen, c0, e1, F, hs, hD, hr, rest⟩ := h
  exact ⟨es, clock, since, seen, c0, (hb.block b h1).trans e1, F, hs, hD, (hb.block r h2).trans hr, rest⟩
attribute [local go_sem ↓] appS_eq
set_option maxRecDepth 100000 in
set_option maxHeartbeats 6400000 in
theorem rising_any (w : World) (fm k : Nat) (P : List Int → Prop) (hS : SetC w fm k P) (hk : k ≤ 80000) :
    Calls Tryz.prog 19 #[.map (some fm)] w fun e w' => ∃ a cap l, e = .returned (.slice a l.length cap) ∧ IsC w' w.heap.size a l.length cap l ∧ SortedL l ∧ (∀ c, c ∈ l ↔ P c) ∧ Below w.heap.size w w' := by
  obtain ⟨n, D, hn, hown, hhas⟩ := hS.own
  have hbl := hown.lt
  have HS : Hid ((∀ l, Maps.has D l = true ↔ ∃ c, P c ∧ clL c = l) ∧ (∀ c, P c → c.length = 5) ∧ (∀ c, P c → ∀ x, x ∈ c → (Lit.int .i64 x).wf = true) ∧ Maps.size D ≤ n ∧ n ≤ 80000) := ⟨hhas, hS.five, hS.wf, hown.size_le, by omega⟩
  have HM := Hid.out (p := Hid _) hown
  clear hS hhas hown
  go_enter Tryz.func19, Tryz.ntmps19
  go_wp2_with (first
    | (at_range; refine wpList_range_own _ rfl _ 47 rfl 78 76 clKeyed Tryz.underlying47 _ fm n _ rfl HM.out ?_; intro w0 hrg0 hg0 hs0)
    | go_in)
  go_frame
  have HB0 : Hid (Below w.heap.size w w0 ∧ w0.heap.size = w.heap.size + 1) := ⟨(Below.refl _ _).grown hg0 (Nat.le_refl _) (fun j hj => by cases hj), hs0⟩
  have HSORT : Hid (∀ W a c l, IsC W (w.heap.size + 1) a l.length c l → w.heap.size + 1 ≤ W.heap.size → l.length ≤ 100000 → l.Nodup → Calls Tryz.prog 38 #[.slice a l.length c, .func (.func 39) #[] #[]] W fun e w' => e = .returned (.tuple #[]) ∧ ∃ l', l'.length = l.length ∧ SortedL l' ∧ (∀ x, x ∈ l' ↔ x ∈ l) ∧ IsC w' (w.heap.size + 1) a l.length c l' ∧ Below (w.heap.size + 1) W w') := fun W a c l h1 h2 h3 h4 => by
    refine Calls.mono (sortCJ_any W _ a c l h1 h2 h3) ?_
    rintro e w' ⟨he, l', g1, g2, g3, g4⟩
    exact ⟨he, l', g1.length_eq, sorted_of g1 h4 g2, fun x => g1.mem_iff, g3, g4⟩
  clear hg0 hs0
  go_loopw [3] (fun o wr => ∃ (left : Lit → Bool) (cnt : Nat) (a : Option Addr) (c : Nat) (l : List (List Int)), o = .slice a l.length c ∧ wr.ranges Tryz.prog 78 (unitElem (H := Unit)) fm w.heap.size n D left cnt ∧ Hid (IsC wr (w.heap.size + 1) a l.length c l ∧ l.Nodup ∧ (∀ x, x ∈ l ↔ P x ∧ left (clL x) = false) ∧ (∀ kl, left kl = true → Maps.has D kl = true) ∧ l.length + cnt ≤ Maps.size D ∧ Below w.heap.size w wr ∧ w.heap.size + 1 ≤ wr.heap.size)) (fun _ wr => wr.rangeLeft fm w.heap.size)
  case atStart =>
    refine ⟨_, _, none, 0, [], rfl, hrg0, ⟨IsC.nil _ _, List.nodup_nil, fun x => ⟨fun h => (by cases h), fun ⟨h1, h2⟩ => ?_⟩, fun _ h => h, by simp, HB0.out.1, by rw [HB0.out.2]; exact Nat.le_refl _⟩⟩
    have := (HS.out.1 (clL x)).mpr ⟨x, h1, rfl⟩
    rw [this] at h2
    cases h2
  case round =>
    obtain ⟨left, cnt, a, c, l, rfl, hrg, HI⟩ := hrel
    obtain ⟨len, hlen⟩ : ∃ z, l.length = z := ⟨_, rfl⟩
    have HLN : Hid (l.length = len) := hlen
    rw [hlen] at HI ⊢
    clear hlen
    go_wp2_with (first
      | (at_next; refine wpList_next_ranges (α := Value) (β := Unit) _ rfl _ rfl 78 clKeyed _ id (fun _ => .agg #[]) (fun key kl _ => ⟨key, rfl⟩) unit_inv fm w.heap.size n _ _ _ rfl hrg ?_ ?_)
      | go_in)
    · intro hc0 hl0
      have HP : Hid (∀ x, x ∈ l ↔ P x) := fun x => by
        rw [HI.out.2.2.1 x, hl0]
        exact ⟨fun h => h.1, fun h => ⟨h, rfl⟩⟩
      have HSO : Hid (Calls Tryz.prog 38 #[.slice a len c, .func (.func 39) #[] #[]] wr fun e w' => e = .returned (.tuple #[]) ∧ ∃ l', l'.length = l.length ∧ SortedL l' ∧ (∀ x, x ∈ l' ↔ x ∈ l) ∧ IsC w' (w.heap.size + 1) a len c l' ∧ Below (w.heap.size + 1) wr w') := by
        have h1 := HI.out.1
        have h2 := HSORT.out wr a c l (by rw [HLN.out]; exact h1) HI.out.2.2.2.2.2.2 (by have := HI.out.2.2.2.2.1; have := HS.out.2.2.2; have := HLN.out; omega) HI.out.2.1
        rw [HLN.out] at h2
        rw [HLN.out]
        exact h2
      clear hrg hl0 hc0 HSORT
      go_wp2_with fail
      refine Calls.mono HSO.out ?_
      rintro e w2 ⟨rfl, l', g1, g2, g3, g4, g5⟩
      have HR : Hid (l'.length = len ∧ IsC w2 w.heap.size a len c l' ∧ SortedL l' ∧ (∀ x, x ∈ l' ↔ P x) ∧ Below w.heap.size w w2) := ⟨g1.trans HLN.out, ⟨g4.is, g4.five, own_low g4.own (Nat.le_succ _)⟩, g2, fun x => (g3 x).trans (HP.out x), HI.out.2.2.2.2.2.1.trans (g5.mono (Nat.le_succ _))⟩
      clear g1 g2 g3 g4 g5 HSO
      go_wp2
      go_ret
      exact ⟨a, c, l', by rw [HR.out.1]; rfl, by rw [HR.out.1]; exact HR.out.2.1, HR.out.2.2.1, HR.out.2.2.2.1, HR.out.2.2.2.2⟩
    · intro x kl yd yp w1 cnt1 hkey hlk hv hat hrg1 hlt hg1 hs1 hen
      obtain ⟨ck, hPc, hck⟩ := (HS.out.1 kl).mp (HI.out.2.2.2.1 kl hlk)
      have hw5 := HS.out.2.2.1 ck hPc
      obtain ⟨x0, x1, x2, x3, x4, rfl⟩ := len5 (HS.out.2.1 ck hPc)
      have hkey2 := clKey (hw5 x0 (by simp)) (hw5 x1 (by simp)) (hw5 x2 (by simp)) (hw5 x3 (by simp)) (hw5 x4 (by simp))
      rw [hck] at hkey2
      obtain rfl : x = clV x0 x1 x2 x3 x4 := clKeyed.inj hkey hkey2
      have hr1 : w.heap.size ≠ fm := by omega
      have hI1 : IsC w1 (w.heap.size + 1) a len c l := ⟨HI.out.1.is, HI.out.1.five, fam_keeps HI.out.1.own (fun g hg => hg1.block g (HI.out.1.own.lt g hg).2 (fun e => by
        injection e with e
        have := (HI.out.1.own.lt g hg).1
        omega))⟩
      have hB1 : Below w.heap.size w w1 := HI.out.2.2.2.2.2.1.grown hg1 HI.out.2.2.2.2.2.1.size (fun j hj => by injection hj with hj; omega)
      have hlen : len ≤ 80000 := by have := HI.out.2.2.2.2.1; have := HS.out.2.2.2; have := HLN.out; omega
      have hnew : [x0, x1, x2, x3, x4] ∉ l := fun hm => by
        have := ((HI.out.2.2.1 _).mp hm).2
        rw [hck, hlk] at this
        cases this
      have hkk : WideAt.IsKeyLit kl := clKeyed.key hkey2
      have HMEM : Hid (∀ z, z ∈ l ++ [[x0, x1, x2, x3, x4]] ↔ P z ∧ (left (clL z) && !(clL z).sameKey kl) = false) := fun z => by
        rw [List.mem_append, HI.out.2.2.1 z, List.mem_singleton]
        constructor
        · rintro (⟨h1, h2⟩ | rfl)
          · exact ⟨h1, by rw [h2]; rfl⟩
          · exact ⟨hPc, by rw [hck, WideAt.sameKey_self hkk]; simp⟩
        · rintro ⟨h1, h2⟩
          cases hl : left (clL z) with
          | false => exact Or.inl ⟨h1, rfl⟩
          | true =>
            rw [hl] at h2
            have h3 : (clL z).sameKey kl = true := by simpa using h2
            refine Or.inr (clL_inj (HS.out.2.1 z h1) rfl (HS.out.2.2.1 z h1) hw5 ?_)
            rw [hck]
            exact WideAt.sameKey_eq h3
      have HND : Hid ((l ++ [[x0, x1, x2, x3, x4]]).Nodup) := by
        show List.Nodup _
        rw [List.nodup_append]
        exact ⟨HI.out.2.1, by simp, fun a ha b hb e => by rw [List.mem_singleton.mp hb] at e; rw [e] at ha; exact hnew ha⟩
      have HLF : Hid (∀ kl', (left kl' && !kl'.sameKey kl) = true → Maps.has D kl' = true) := fun kl' h => HI.out.2.2.2.1 kl' (by simp only [Bool.and_eq_true] at h; exact h.1)
      have HCT : Hid (len + 1 + cnt1 ≤ Maps.size D) := by show _ ≤ _; have := HI.out.2.2.2.2.1; omega
      have HLT := Hid.out (p := Hid _) (And.intro hlt hrg.left_eq)
      have HN1 : Hid (Below w.heap.size w w1 ∧ w.heap.size + 1 ≤ w1.heap.size) := ⟨hB1, by rw [hs1]; exact HI.out.2.2.2.2.2.2⟩
      have hen' : (Instr.entry (.pointer (some ⟨w.heap.size, 0, none⟩))).run Tryz.prog w1 = .ok (.tuple #[clV x0 x1 x2 x3 x4, .agg #[]]) w1 := hen
      clear hkey hkey2 hv hat hw5 hPc hck hnew hlt hen hlk hkk
      have hrg2 : ∀ W, Below (w.heap.size + 1) w1 W → W.ranges Tryz.prog 78 (unitElem (H := Unit)) fm w.heap.size n D (fun z => left z && !z.sameKey kl) cnt1 := fun W hW => ranges_low hrg1 hW (by omega) (by omega)
      have HRG := Hid.out (p := Hid _) hrg2
      have HI1 := Hid.out (p := Hid _) hI1
      have hsz1 := HN1.out.2
      have hbV : Below w1.heap.size w1 (w1.alloc (.cells #[.int .i64 x0, .int .i64 x1, .int .i64 x2, .int .i64 x3, .int .i64 x4] 78)) := (Below.refl _ _).alloc (Nat.le_refl _) _
      obtain ⟨g, cap, w3, hrun, HP⟩ := HI1.out.push (w0 := w1) hbV hsz1 (by omega) x0 x1 x2 x3 x4 (hbV.mono hsz1)
      rw [World.size_alloc] at hrun
      have hl1 : (l ++ [[x0, x1, x2, x3, x4]]).length = len + 1 := by rw [List.length_append, HLN.out]; rfl
      have HLN2 := Hid.out (p := Hid _) hl1
      clear hrg2 hrg1 hI1 hB1 hg1 hs1 hr1 hrg hbV hl1
      go_wp2
      go_roundw
      case rel => exact ⟨_, cnt1, some ⟨g, 0, none⟩, cap, l ++ [[x0, x1, x2, x3, x4]], by rw [HLN2.out], HRG.out _ HP.out.2, by rw [HLN2.out]; exact HP.out.1, HND.out, HMEM.out, HLF.out, by rw [HLN2.out]; exact HCT.out, HN1.out.1.trans ((HP.out.2.mono (Nat.le_succ _))), Nat.le_trans HN1.out.2 HP.out.2.size⟩
      case measure =>
        rw [(HRG.out _ HP.out.2).left_eq, HLT.out.2]
        exact HLT.out.1
end

end Go.Proofs.YtipdnfpomdcenacGreatDoor
