/-
  Outcomes are noted down while the program goes through states.
  Those who look on note outcomes down.
  The list of outcomes is sorted, and of like ones one stays.
  Whether two lists of outcomes are the same, by the program: slices.EqualFunc.
-/
import Derived.Test.YtelckcpjmekgcadGreatDoorOpens3
import Derived.Deep.RegionWith
import Derived.Test.YtelckcpjmekgcadGreatDoorOcComp2
import Derived.Shelf.SlSortCmp.NoneTotal
namespace Go.Proofs.YtelckcpjmekgcadGreatDoor
section
open Go.RowKit Go.Sort Go.Shelf

theorem OlI.push_at {W : World} {B km lb : Nat} {es : List En} (h : OlI W B km lb es) (hB : B ≤ W.heap.size) {n : Nat} (hn : es.length = n) (hlen : n ≤ 90000) (e : En) (he : EnJ W B e) {a : Option Addr} {c : Nat} (hc : W.cell? ⟨lb, 0, none⟩ = some (.slice a n c)) : 
    ∃ g cap w3, (AppS #[44, 44] 44 #[.slice a n c, .slice (some ⟨W.heap.size, 0, none⟩) 1 1]).run Tryz.prog (W.alloc (.cells #[.int .i64 e.o.st, .slice e.wa e.o.ws.length e.wc, .slice e.pa e.o.pr.length e.pc] 73)) = .ok (.slice (some ⟨g, 0, none⟩) (n + 1) cap) w3 ∧ w3.cell? ⟨lb, 0, none⟩ = some (.slice a n c) ∧ w3.frozen? ⟨lb, 0, none⟩ = false ∧
      Hid (OlI (w3.setCell ⟨lb, 0, none⟩ (.slice (some ⟨g, 0, none⟩) (n + 1) cap)) B km lb (es ++ [e]) ∧ Fr B (NO km) W (w3.setCell ⟨lb, 0, none⟩ (.slice (some ⟨g, 0, none⟩) (n + 1) cap))) := by
  subst hn
  obtain ⟨a', c', h1, h2⟩ := h.push hB hlen e he
  rw [hc] at h1
  simp only [Option.some.injEq, Value.slice.injEq, true_and] at h1
  obtain ⟨rfl, rfl⟩ := h1
  exact h2

attribute [local go_sem ↓] appS_eq
set_option maxRecDepth 100000 in
set_option maxHeartbeats 1600000 in
/-- One fell. -/
theorem ofell_any (c : Wc) (lb : Nat) (W : World) (es : List En) (sb mb bb : Nat) (v : Rp → Value) (s : Sx) (hI : OlI W c.B c.km lb es) (hl : es.length ≤ 90000) (hq : QSt W 0 (c.Q.at bb) sb mb v s) (hp : s.prints.length ≤ 100000) (hB : c.B ≤ W.heap.size) :
    Calls Tryz.prog 43 #[.pointer (some ⟨sb, 0, none⟩), .pointer (some ⟨lb, 0, none⟩)] W fun e W' => e = .returned (.tuple #[]) ∧ Fr c.B (NO c.km) W W' ∧ ∃ x, x.o = ⟨1, [], s.prints⟩ ∧ OlI W' c.B c.km lb (es ++ [x]) := by
  obtain ⟨a, cp, hbx, _, _⟩ := hI.box
  have hcell : W.cell? ⟨lb, 0, none⟩ = some (.slice a es.length cp) := box_cell hbx rfl
  have HC : Hid (∀ V, Below W.heap.size W V → Calls Tryz.prog 42 #[.pointer (some ⟨sb, 0, none⟩)] V fun e w' => ∃ a c, e = .returned (.slice a s.prints.length c) ∧ w'.ownsRow V.heap.size 3 1 (.slice a s.prints.length c) s.prints.length (intsV s.prints) ∧ Below V.heap.size V w') := fun V hb => prints_any V 0 (c.Q.at bb) sb mb v s (hq.below hb) (by omega)
  have HI := Hid.out (p := Hid _) (And.intro hI hB)
  have HPL : Hid (s.prints.length ≤ 100000) := hp
  obtain ⟨n, hn⟩ : ∃ n, es.length = n := ⟨_, rfl⟩
  have HN : Hid (es.length = n) := hn
  obtain ⟨pn, hpn⟩ : ∃ n, s.prints.length = n := ⟨_, rfl⟩
  have HPN : Hid (s.prints.length = pn) := hpn
  rw [hn] at hcell hl
  rw [hpn] at HC
  have HFIN : Hid (∀ w2 pa pcc, w2.ownsRow W.drew.heap.size 3 1 (.slice pa pn pcc) pn (intsV s.prints) → Below W.drew.heap.size W.drew w2 → w2.cell? ⟨lb, 0, none⟩ = some (.slice a n cp) ∧ ∃ g cap w3, (AppS #[44, 44] 44 #[.slice a n cp, .slice (some ⟨w2.heap.size, 0, none⟩) 1 1]).run Tryz.prog (w2.alloc (.cells #[.int .i64 1, nilV, .slice pa pn pcc] 73)) = .ok (.slice (some ⟨g, 0, none⟩) (n + 1) cap) w3 ∧ w3.cell? ⟨lb, 0, none⟩ = some (.slice a n cp) ∧ w3.frozen? ⟨lb, 0, none⟩ = false ∧
      Hid (∃ x, x.o = ⟨1, [], s.prints⟩ ∧ OlI (w3.setCell ⟨lb, 0, none⟩ (.slice (some ⟨g, 0, none⟩) (n + 1) cap)) c.B c.km lb (es ++ [x]) ∧ Fr c.B (NO c.km) W (w3.setCell ⟨lb, 0, none⟩ (.slice (some ⟨g, 0, none⟩) (n + 1) cap)))) := fun w2 pa pcc h1 h2 => by
    have hb : Below W.heap.size W w2 := (Below.refl _ _).drew.trans h2
    have hc2 := (hb.cell (lt_of_cell hcell)).trans hcell
    refine ⟨hc2, ?_⟩
    have hJ : EnJ w2 c.B ⟨⟨1, [], s.prints⟩, none, 0, pa, pcc⟩ := ⟨World.ownsRow_nil _ _ _ _, by
      show World.ownsRow _ _ _ _ (.slice pa s.prints.length pcc) s.prints.length _
      rw [hpn]
      exact own_low h1 hB, Nat.zero_le _, hp⟩
    obtain ⟨g, cap, w3, r1, z1, z2, HH⟩ := (hI.below hB hb).push_at (Nat.le_trans hB hb.size) hn hl _ hJ hc2
    refine ⟨g, cap, w3, ?_, z1, z2, ⟨_, rfl, HH.out.1, (Fr.of_below hB hb).trans HH.out.2⟩⟩
    rw [← hpn]
    exact r1
  clear hI hbx hq hB hn hpn hp
  go_enter Tryz.func43, Tryz.ntmps43
  go_wp2_with fail
  go_region_with (go_at_call 42; refine Calls.mono (HC.out _ (Below.refl _ _).drew) ?_; rintro e w2 ⟨pa, pcc, rfl, ho2, hb2⟩; have HI2 := HFIN.out w2 pa pcc ho2 hb2; clear ho2 hb2; obtain ⟨z0, g, cap, w3, r1, z1, z2, HR⟩ := HI2; have z4 := cell_up z0)
  all_goals go_end0
  all_goals obtain ⟨x, hx, h1, h2⟩ := HR.out
  all_goals exact ⟨rfl, h2, x, hx, h1⟩
/-- What is noted of one that is seen. -/
def SeeQ (c : Wc) (lb : Nat) (W : World) (es : List En) (s : Sx) (W' : World) : Prop := Fr c.B (NO c.km) W W' ∧ ∃ es', OlI W' c.B c.km lb es' ∧ es'.length ≤ es.length + 1 ∧ ∀ o, o ∈ es'.map En.o ↔ o ∈ es.map En.o ∨ (movesX c.Q.L c.X c.mode s = [] ∧ o = ⟨if endedX c.Q.L s then 0 else 2, s.words, s.prints⟩)
set_option maxRecDepth 100000 in
set_option maxHeartbeats 3200000 in
/-- One is seen. -/
theorem osee_any (c : Wc) (hc : WcOk c) (lb : Nat) (W : World) (es : List En) (sb mb bb : Nat) (v : Rp → Value) (s : Sx) (k : Nat) (hI : OlI W c.B c.km lb es) (hl : es.length ≤ 90000) (hq : QSt W 0 (c.Q.at bb) sb mb v s) (hs : StP c k s) (hk : k ≤ 4500) (hlow : Below c.B c.w0 W) :
    Calls Tryz.prog 39 #[.pointer (some ⟨sb, 0, none⟩), .pointer (some ⟨lb, 0, none⟩)] W fun e W' => e = .returned (.tuple #[]) ∧ SeeQ c lb W es s W' := by
  have hB : c.B ≤ W.heap.size := by rw [hc.Bw]; exact hlow.size
  have HP : Hid (Calls Tryz.prog 40 #[.pointer (some ⟨sb, 0, none⟩)] W fun e w' => ∃ a len cp, e = .returned (.slice a len cp) ∧ (movesX c.Q.L c.X c.mode s).length = len ∧ Below W.heap.size W w') := by
    refine (picks_any W 0 (c.Q.at bb) sb mb v s c.ca c.X c.n c.m c.lk c.rg hc.n0 hq hc.hM (Nat.zero_le _) hc.nt hs.ok hc.cok (hc.prog.below (by have := hlow; rw [hc.Bw] at this; exact this))).mono ?_
    rintro e w' ⟨a, len, cp, he, hp, hb⟩
    exact ⟨a, len, cp, he, hp.is, hb⟩
  have hm16 : (movesX c.Q.L c.X c.mode s).length ≤ 16 := by
    have h1 := mvsT_len c.Q.L c.X c.mode s (fun t ht => hs.ok.wlen t (by rw [← hs.ok.ths]; exact ht)) s.ths.length (Nat.le_refl _)
    rw [mvsT_all] at h1
    have h2 := hs.ok.ths
    have h3 := hc.cok.n4
    omega
  obtain ⟨ML, hML⟩ : ∃ n, (movesX c.Q.L c.X c.mode s).length = n := ⟨_, rfl⟩
  have HML : Hid ((movesX c.Q.L c.X c.mode s).length = ML) := hML
  rw [hML] at HP hm16
  by_cases hz : ML = 0
  · subst hz
    have hnil : movesX c.Q.L c.X c.mode s = [] := List.eq_nil_of_length_eq_zero hML
    obtain ⟨st, hst⟩ : ∃ st : Int, (if endedX c.Q.L s then 0 else 2) = st := ⟨_, rfl⟩
    have HRE : Hid (∀ V, Below W.heap.size W V → Calls Tryz.prog 41 #[.pointer (some ⟨sb, 0, none⟩)] V fun e w' => e = .returned (.int .i64 st) ∧ Below V.heap.size V w') := fun V hb => by
      have h := rest_any V 0 (c.Q.at bb) sb mb v s c.n (hq.below hb) hs.ok.ths hc.n0 hc.cok.n4 hc.cok.L4 hs.ok.pc
      rw [← ended_bare (fun t ht => moves_bare hnil ht)] at h
      rw [← hst]
      exact h
    have HWO : Hid (∀ V, Below W.heap.size W V → Calls Tryz.prog 137 #[.pointer (some ⟨mb, 0, none⟩)] V fun e w' => ∃ a cap, e = .returned (.slice a s.words.length cap) ∧ w'.ownsRow V.heap.size 3 1 (.slice a s.words.length cap) s.words.length (intsV s.words) ∧ Below V.heap.size V w') := fun V hb => words_any V 0 (c.Q.at bb) sb mb v s (hq.below hb) (by rw [hs.ok.words]; exact hc.cok.m64)
    have HPR : Hid (∀ V, Below W.heap.size W V → Calls Tryz.prog 42 #[.pointer (some ⟨sb, 0, none⟩)] V fun e w' => ∃ a c, e = .returned (.slice a s.prints.length c) ∧ w'.ownsRow V.heap.size 3 1 (.slice a s.prints.length c) s.prints.length (intsV s.prints) ∧ Below V.heap.size V w') := fun V hb => prints_any V 0 (c.Q.at bb) sb mb v s (hq.below hb) (by have := hs.pr; omega)
    have HMW : Hid (∀ V, Below W.heap.size W V → (method 321 c.Q.K.tid (.pointer (some ⟨(c.Q.at bb).top mb, 0, none⟩)) "Words").run Tryz.prog V = .ok (137, .pointer (some ⟨mb, 0, none⟩)) V) := fun V hb => hc.hM.mWords V 0 (c.Q.at bb) sb mb v s rfl (hq.below hb)
    have HC0 : Hid (∀ V, Below W.heap.size W V → V.cell? ⟨sb, 0, none⟩ = some (.iface c.Q.K.tid (.pointer (some ⟨(c.Q.at bb).top mb, 0, none⟩)))) := fun V hb => (hq.below hb).c0
    obtain ⟨a, cp, hbx, _, _⟩ := hI.box
    have hcell : W.cell? ⟨lb, 0, none⟩ = some (.slice a es.length cp) := box_cell hbx rfl
    obtain ⟨n, hn⟩ : ∃ n, es.length = n := ⟨_, rfl⟩
    have HN : Hid (es.length = n) := hn
    obtain ⟨pn, hpn⟩ : ∃ n, s.prints.length = n := ⟨_, rfl⟩
    obtain ⟨wn, hwn⟩ : ∃ n, s.words.length = n := ⟨_, rfl⟩
    rw [hn] at hcell hl
    have HFIN : Hid (∀ w3 w4 b wa wcc pa pcc, W.heap.size ≤ b → w3.ownsRow b 3 1 (.slice wa wn wcc) wn (intsV s.words) → Below W.heap.size W w3 → w4.ownsRow w3.heap.size 3 1 (.slice pa pn pcc) pn (intsV s.prints) → Below w3.heap.size w3 w4 → ∃ g cap w5, (AppS #[44, 44] 44 #[.slice a n cp, .slice (some ⟨w4.heap.size, 0, none⟩) 1 1]).run Tryz.prog (w4.alloc (.cells #[.int .i64 st, .slice wa wn wcc, .slice pa pn pcc] 73)) = .ok (.slice (some ⟨g, 0, none⟩) (n + 1) cap) w5 ∧ w5.cell? ⟨lb, 0, none⟩ = some (.slice a n cp) ∧ w5.frozen? ⟨lb, 0, none⟩ = false ∧
        Hid (∃ x, x.o = ⟨st, s.words, s.prints⟩ ∧ OlI (w5.setCell ⟨lb, 0, none⟩ (.slice (some ⟨g, 0, none⟩) (n + 1) cap)) c.B c.km lb (es ++ [x]) ∧ Fr c.B (NO c.km) W (w5.setCell ⟨lb, 0, none⟩ (.slice (some ⟨g, 0, none⟩) (n + 1) cap)))) := fun w3 w4 b wa wcc pa pcc hb0 h1 h2 h3 h4 => by
      have hb : Below W.heap.size W w4 := h2.trans (h4.mono h2.size)
      have hc2 := (hb.cell (lt_of_cell hcell)).trans hcell
      have hJ : EnJ w4 c.B ⟨⟨st, s.words, s.prints⟩, wa, wcc, pa, pcc⟩ := ⟨by
        show World.ownsRow _ _ _ _ (.slice wa s.words.length wcc) s.words.length _
        rw [hwn]
        exact own_low (fam_keeps h1 (fun g hg => h4.block g (h1.lt g hg).2)) (Nat.le_trans hB hb0), by
        show World.ownsRow _ _ _ _ (.slice pa s.prints.length pcc) s.prints.length _
        rw [hpn]
        exact own_low h3 (Nat.le_trans hB h2.size), by
        show s.words.length ≤ _
        rw [hs.ok.words]; have := hc.cok.m64; omega, by
        show s.prints.length ≤ _
        have := hs.pr; omega⟩
      obtain ⟨g, cap, w5, r1, z1, z2, HH⟩ := (hI.below hB hb).push_at (Nat.le_trans hB hb.size) hn hl _ hJ hc2
      refine ⟨g, cap, w5, ?_, z1, z2, ⟨_, rfl, HH.out.1, (Fr.of_below hB hb).trans HH.out.2⟩⟩
      rw [← hpn, ← hwn]
      exact r1
    have HLB : Hid (∀ V, Below W.heap.size W V → V.cell? ⟨lb, 0, none⟩ = some (.slice a n cp)) := fun V hb => (hb.cell (lt_of_cell hcell)).trans hcell
    have HEND : Hid (∀ W', (∃ x, x.o = ⟨st, s.words, s.prints⟩ ∧ OlI W' c.B c.km lb (es ++ [x]) ∧ Fr c.B (NO c.km) W W') → SeeQ c lb W es s W') := fun W' ⟨x, hx, h1, h2⟩ => by
      refine ⟨h2, _, h1, by rw [List.length_append]; exact Nat.le_refl _, fun o => ?_⟩
      rw [List.map_append, List.mem_append, List.map_singleton, List.mem_singleton, hx, hst]
      exact ⟨fun h => h.imp id (fun h => ⟨hnil, h⟩), fun h => h.imp id (·.2)⟩
    rw [hwn] at HWO
    rw [hpn] at HPR
    clear hI hbx hq hB hn hpn hwn hs hk hlow hcell hc hst hML hnil HML
    go_enter Tryz.func39, Tryz.ntmps39
    go_wp2_with fail
    refine Calls.mono HP.out ?_
    rintro e w1 ⟨a1, l1, c1, rfl, rfl, hb1⟩
    have u0 := HC0.out w1 hb1
    have u1 := HLB.out w1 hb1
    clear HP
    go_wp2_with fail
    go_region_with (first | (go_at_call 41; refine Calls.mono (HRE.out _ hb1.drew) ?_; rintro e w2 ⟨rfl, hb2⟩; have hB2 : Below W.heap.size W w2 := hb1.drew.trans (hb2.mono hb1.size); have y0 := HC0.out w2 hB2; have y1 := HLB.out w2 hB2; have y2 := HMW.out w2 hB2) | (go_at_call 137; refine Calls.mono (HWO.out _ hB2) ?_; rintro e w3 ⟨wa, wcc, rfl, ho3, hb3⟩; have hB3 : Below W.heap.size W w3 := hB2.trans (hb3.mono hB2.size); have x1 := HLB.out w3 hB3) | (go_at_call 42; refine Calls.mono (HPR.out _ hB3) ?_; rintro e w4 ⟨pa, pcc, rfl, ho4, hb4⟩; have hB4 : Below W.heap.size W w4 := hB3.trans (hb4.mono hB3.size); have v1 := HLB.out w4 hB4; have v2 := cell_up v1; obtain ⟨g, cap, w5, r1, z1, z2, HR⟩ := HFIN.out w3 w4 _ wa wcc pa pcc hB2.size ho3 hB3 ho4 hb4; clear ho3 ho4))
    all_goals go_end0
    all_goals exact ⟨rfl, HEND.out _ HR.out⟩
  · have hne : movesX c.Q.L c.X c.mode s ≠ [] := fun e => hz (by rw [← hML, e]; rfl)
    have HI : Hid (∀ V, Below W.heap.size W V → SeeQ c lb W es s V) := fun V hb => ⟨Fr.of_below hB hb, es, hI.below hB hb, Nat.le_succ _, fun o => ⟨Or.inl, fun h => h.resolve_right (fun h => hne h.1)⟩⟩
    have hz' : ¬ (ML : Int) = 0 := by omega
    clear hI hq hB hs hk hlow hc hML hne
    go_enter Tryz.func39, Tryz.ntmps39
    go_wp2_with fail
    refine Calls.mono HP.out ?_
    rintro e w1 ⟨a1, l1, c1, rfl, rfl, hb1⟩
    clear HP
    go_wp2_with fail
    go_end0
    exact ⟨rfl, HI.out _ (by first | exact hb1 | exact hb1.drew)⟩
end

section
open Go.RowKit Go.Sort Go.Shelf

section
variable {L : Nat → Nat} {X : Nat → Nat → Nat → Int} {mode : Int} {Z F : List Sx} {s : Sx} {o : Oc}
theorem outc_see : outcX L X mode (Z ++ [s]) F o ↔ outcX L X mode Z F o ∨ (movesX L X mode s = [] ∧ o = ⟨if endedX L s then 0 else 2, s.words, s.prints⟩) := by
  unfold outcX
  constructor
  · rintro (⟨t, ht, h⟩ | h)
    · rcases List.mem_append.mp ht with ht | ht
      · exact Or.inl (Or.inl ⟨t, ht, h⟩)
      · rw [List.mem_singleton.mp ht] at h; exact Or.inr h
    · exact Or.inl (Or.inr h)
  · rintro ((⟨t, ht, h⟩ | h) | h)
    · exact Or.inl ⟨t, List.mem_append_left _ ht, h⟩
    · exact Or.inr h
    · exact Or.inl ⟨s, by simp, h⟩
theorem outc_fell : outcX L X mode Z (F ++ [s]) o ↔ outcX L X mode Z F o ∨ o = ⟨1, [], s.prints⟩ := by
  unfold outcX
  constructor
  · rintro (h | ⟨t, ht, h⟩)
    · exact Or.inl (Or.inl h)
    · rcases List.mem_append.mp ht with ht | ht
      · exact Or.inl (Or.inr ⟨t, ht, h⟩)
      · rw [List.mem_singleton.mp ht] at h; exact Or.inr h
  · rintro ((h | ⟨t, ht, h⟩) | h)
    · exact Or.inl h
    · exact Or.inr ⟨t, List.mem_append_left _ ht, h⟩
    · exact Or.inr ⟨s, by simp, h⟩
end
/-- What was noted down of those that were seen and those that fell. -/
def ObO (c : Wc) (lb : Nat) (W : World) (Z F : List Sx) : Prop := ∃ es, OlI W c.B c.km lb es ∧ (∀ o, o ∈ es.map En.o ↔ outcX c.Q.L c.X c.mode Z F o) ∧ es.length ≤ Z.length + F.length
/-- Outcomes' see and fell. -/
theorem obs_out (c : Wc) (hc : WcOk c) (hty : ∀ r, pTy c.Q.K r ≠ 73 ∧ pTy c.Q.K r ≠ 44) (lb : Nat) : Obs c 39 43 #[.pointer (some ⟨lb, 0, none⟩)] #[.pointer (some ⟨lb, 0, none⟩)] (NO c.km) (ObO c lb) where
  fnS := enters_of Tryz.func39 (by kernel_rfl) rfl
  fnF := enters_of Tryz.func43 (by kernel_rfl) rfl
  n1 k cs t ht := by
    refine no_cells (fun e => ?_) (fun e => ?_)
    · rw [e] at ht; revert ht; unfold wTy; decide
    · rw [e] at ht; revert ht; unfold wTy; decide
  n2 o h := h.1 rfl
  n3 r k cs := no_cells (hty r).1 (hty r).2
  keep W W' Z F h hf := by
    obtain ⟨es, h1, h2⟩ := h
    exact ⟨es, h1.fr hf (fun k c => nw_cells (by unfold wTy; decide)) (fun k c => nw_cells (by unfold wTy; decide)) (fun k c => nw_cells (by unfold wTy; decide)), h2⟩
  see W Z F sb mb bb v s k h hq hs hk hZ hF hlow := by
    obtain ⟨es, h1, h2, h3⟩ := h
    refine Calls.mono (osee_any c hc lb W es sb mb bb v s k h1 (by omega) hq hs hk hlow) ?_
    rintro e W' ⟨he, hfr, es', g1, g2, g3⟩
    refine ⟨he, ⟨es', g1, fun o => ?_, by rw [List.length_append, List.length_singleton]; omega⟩, hfr⟩
    rw [g3 o, h2 o]
    exact outc_see.symm
  fell W Z F sb mb bb v s h hq hp hZ hF hlow := by
    obtain ⟨es, h1, h2, h3⟩ := h
    refine Calls.mono (ofell_any c lb W es sb mb bb v s h1 (by omega) hq (by omega) (by rw [hc.Bw]; exact hlow.size)) ?_
    rintro e W' ⟨he, hfr, x, hx, g1⟩
    refine ⟨he, ⟨es ++ [x], g1, fun o => ?_, by rw [List.length_append, List.length_append, List.length_singleton, List.length_singleton]; omega⟩, hfr⟩
    rw [List.map_append, List.mem_append, h2 o, List.map_singleton, List.mem_singleton, hx]
    exact outc_fell.symm
end

section
open Go.RowKit Go.Sort Go.Shelf

section
variable {w w' : World} {B : Nat} {a : Option Addr} {n c : Nat} {es : List En}
/-- How a list lies. -/
theorem IsO.lies (h : IsO w B a n c es) : (a = none ∧ n = 0 ∧ c = 0) ∨ ∃ g cur, a = some ⟨g, 0, none⟩ ∧ B ≤ g ∧ n ≤ c ∧ w.heap[g]? = some (.cells cur 73) := by
  rcases h.own.2 with ⟨h0, _⟩ | ⟨g, cap, cur, hv, hg, hh, h1, _⟩
  · simp only [Value.slice.injEq] at h0
    exact Or.inl h0
  · simp only [Value.slice.injEq, true_and] at hv
    exact Or.inr ⟨g, cur, hv.1, hg, by rw [hv.2]; exact h1, hh⟩
theorem EnJ.srt {e : En} {g : Nat} {cur : Array Value} (h : EnJ w B e) (hg : w.heap[g]? = some (.cells cur 73)) (hs : Srt B w w' (some ⟨g, 0, none⟩)) : EnJ w' B e := by
  refine ⟨fam_keeps h.ws (fun k hk => hs.kept k (h.ws.lt k hk).2 (fun p hp e => ?_)), fam_keeps h.pr (fun k hk => hs.kept k (h.pr.lt k hk).2 (fun p hp e => ?_)), h.wl, h.pl⟩
  · rw [← Option.some.inj hp] at e
    exact own_type h.ws hg (by decide) (by rw [hk]; exact congrArg some e.symm)
  · rw [← Option.some.inj hp] at e
    exact own_type h.pr hg (by decide) (by rw [hk]; exact congrArg some e.symm)
/-- The list is sorted. -/
theorem sortJ_any (h : IsO w B a es.length c es) (hJ : ∀ e, e ∈ es → EnJ w B e) (hB : B ≤ w.heap.size) (hl : es.length ≤ 100000) :
    Calls Tryz.prog 46 #[.slice a es.length c, .func (.func 47) #[] #[]] w fun e w' => e = .returned (.tuple #[]) ∧ ∃ es', es'.Perm es ∧ es'.Pairwise (fun x y => aheadO y.o x.o = false) ∧ IsO w' B a es.length c es' ∧ (∀ e, e ∈ es' → EnJ w' B e) ∧ Srt B w w' a := by
  rcases Nat.eq_zero_or_pos es.length with h0 | h0
  · have he : es = [] := List.eq_nil_of_length_eq_zero h0
    subst he
    refine Calls.mono (AnyF.slices_SortFunc_none Tryz.sortOc a c _ w) ?_
    rintro e w' ⟨rfl, rfl⟩
    exact ⟨rfl, [], List.Perm.refl _, List.Pairwise.nil, h, hJ, Srt.refl _ _ _⟩
  · rcases h.lies with ⟨_, hz, _⟩ | ⟨g, cur, rfl, _, _, hh⟩
    · omega
    · refine Calls.mono (sort_any w B _ c es h (fun e he p hp => by rw [← Option.some.inj hp]; exact (hJ e he).off hh (by decide)) hB hl h0) ?_
      rintro e w' ⟨rfl, es', h1, h2, h3, h4⟩
      exact ⟨rfl, es', h1, h2, h3, fun e he => (hJ e (h1.mem_iff.mp he)).srt hh h4, h4⟩
end
set_option maxRecDepth 100000 in
set_option maxHeartbeats 800000 in
theorem compact_nil (w : World) :
    Calls Tryz.prog 48 #[nilV, .func (.func 34) #[] #[]] w fun e w' => e = .returned nilV ∧ w' = w := by
  go_enter Tryz.func48, Tryz.ntmps48
  go_wp2_with fail
  go_ret
  exact ⟨rfl, rfl⟩
/-- Of like ones one stays. -/
theorem compactJ_any {w : World} {B : Nat} {a : Option Addr} {c : Nat} {es : List En} (h : IsO w B a es.length c es) (hJ : ∀ e, e ∈ es → EnJ w B e) (hB : B ≤ w.heap.size) (hl : es.length ≤ 100000) :
    Calls Tryz.prog 48 #[.slice a es.length c, .func (.func 34) #[] #[]] w fun e w' => ∃ k es', e = .returned (.slice a k c) ∧ IsO w' B a k c es' ∧ es' = compE es es.length ∧ (∀ e, e ∈ es' → EnJ w' B e) ∧ Srt B w w' a := by
  rcases h.lies with ⟨rfl, hz, rfl⟩ | ⟨g, cur, rfl, hg, hc, hh⟩
  · have he : es = [] := List.eq_nil_of_length_eq_zero hz
    subst he
    refine Calls.mono (compact_nil w) ?_
    rintro e w' ⟨rfl, rfl⟩
    exact ⟨0, [], rfl, h, rfl, hJ, Srt.refl _ _ _⟩
  · refine Calls.mono (compact_any w B g c es h (fun e he => (hJ e he).off hh (by decide)) hB hg hl hc) ?_
    rintro e w' ⟨k, es', rfl, h1, h2, h3⟩
    exact ⟨k, es', rfl, h1, h2, fun e he => (hJ e (by rw [h2] at he; exact compE_mem (Nat.le_refl _) he)).srt hh h3, h3⟩
end

section
open Go.RowKit Go.Sort Go.Shelf

theorem take_eq_next {x y : List Oc} {k : Nat} (h : x.take k = y.take k) (h1 : k < x.length) (h2 : k < y.length) (e : x.getD k default = y.getD k default) : x.take (k + 1) = y.take (k + 1) := otake_ext h h1 h2 e
set_option maxRecDepth 100000 in
set_option maxHeartbeats 1600000 in
theorem equal_any (w : World) (a b : Option Addr) (es fs : List En) (c d : Nat) (hE : EIn w a es) (hF : EIn w b fs) (hok : ∀ x, x ∈ es → EnOk w x) (hok' : ∀ x, x ∈ fs → EnOk w x) (hn : es.length ≤ 100000) (_hm : fs.length ≤ 100000) :
    Calls Tryz.prog 33 #[.slice a es.length c, .slice b fs.length d, .func (.func 34) #[] #[]] w fun e w' => e = .returned (.bool (decide (es.map En.o = fs.map En.o))) ∧ Below w.heap.size w w' := by
  by_cases hl : es.length = fs.length
  · obtain ⟨R, hR⟩ : ∃ R, decide (es.map En.o = fs.map En.o) = R := ⟨_, rfl⟩
    have HR : Hid (decide (es.map En.o = fs.map En.o) = R) := hR
    rw [hR]
    have HS : Hid (∀ W i, Below w.heap.size w W → i < es.length → Calls Tryz.prog 34 #[enV (es.getD i default), enV (fs.getD i default)] W fun e w' => e = .returned (.bool (decide ((es.getD i default).o = (fs.getD i default).o))) ∧ Below w.heap.size w w') := fun W i hb hi => by
      refine Calls.mono (same_any W _ _ ((hok _ (getD_in hi)).below hb) ((hok' _ (getD_in (by omega))).below hb)) ?_
      rintro e w' ⟨he, h2⟩
      exact ⟨he, hb.trans (h2.mono hb.size)⟩
    have HE : Hid (EIn w a es ∧ EIn w b fs) := ⟨hE, hF⟩
    obtain ⟨n, hnn⟩ : ∃ n, es.length = n := ⟨_, rfl⟩
    have HN : Hid (es.length = n ∧ fs.length = n) := ⟨hnn, by rw [← hl]; exact hnn⟩
    rw [← hl, hnn]
    rw [hnn] at hn HS
    clear hE hF hok hok' hl hnn hR
    go_enter Tryz.func33, Tryz.ntmps33
    go_wp2_with fail
    go_loopw [17] (fun i wr => ∃ k : Nat, k ≤ n ∧ i = .int .i64 k ∧ Hid (Below w.heap.size w wr ∧ (es.map En.o).take k = (fs.map En.o).take k)) (fun i _ => n - (intOf i).toNat)
    case atStart => exact ⟨0, Nat.zero_le _, rfl, Below.refl _ _, rfl⟩
    case round =>
      obtain ⟨k, hk, rfl, HI⟩ := hrel
      by_cases hlt : k < n
      · have hbr := HI.out.1
        obtain ⟨p, o, rfl, a0, a1, a2⟩ := (HE.out.1.below hbr) k (by rw [HN.out.1]; exact hlt)
        obtain ⟨p2, o2, rfl, b0, b1, b2⟩ := (HE.out.2.below hbr) k (by rw [HN.out.2]; exact hlt)
        have hp := lt_of_cell a0
        have hp2 := lt_of_cell b0
        have hsz := hbr.size
        have hT := HI.out.2
        obtain ⟨R2, hR2⟩ : ∃ R, decide ((es.getD k default).o = (fs.getD k default).o) = R := ⟨_, rfl⟩
        have HNX : Hid (R2 = true → (es.map En.o).take (k + 1) = (fs.map En.o).take (k + 1)) := fun h => by
          rw [h] at hR2
          refine take_eq_next hT (by rw [List.length_map, HN.out.1]; exact hlt) (by rw [List.length_map, HN.out.2]; exact hlt) ?_
          rw [map_getD (by rw [HN.out.1]; exact hlt), map_getD (by rw [HN.out.2]; exact hlt)]
          exact of_decide_eq_true hR2
        have HNO : Hid (R2 = false → R = false) := fun h => by
          rw [h] at hR2
          rw [← HR.out]
          refine decide_eq_false (fun e => of_decide_eq_false hR2 ?_)
          have : (es.map En.o).getD k default = (fs.map En.o).getD k default := by rw [e]
          rw [map_getD (by rw [HN.out.1]; exact hlt), map_getD (by rw [HN.out.2]; exact hlt)] at this
          exact this
        have HC : Hid (∀ W, Below w.heap.size w W → Calls Tryz.prog 34 #[enV (es.getD k default), enV (fs.getD k default)] W fun e w' => e = .returned (.bool R2) ∧ Below w.heap.size w w') := fun W hb => by
          have := HS.out W k hb hlt
          rw [hR2] at this
          exact this
        obtain ⟨⟨⟨s1, l1, m1⟩, wa1, wc1, pa1, pc1⟩, hx1⟩ : ∃ x, es.getD k default = x := ⟨_, rfl⟩
        obtain ⟨⟨⟨s2, l2, m2⟩, wa2, wc2, pa2, pc2⟩, hx2⟩ : ∃ x, fs.getD k default = x := ⟨_, rfl⟩
        rw [hx1] at a0 a1 a2
        rw [hx2] at b0 b1 b2
        have HC2 : Hid (∀ W, Below w.heap.size w W → Calls Tryz.prog 34 #[.agg #[.int .i64 s1, .slice wa1 l1.length wc1, .slice pa1 m1.length pc1], .agg #[.int .i64 s2, .slice wa2 l2.length wc2, .slice pa2 m2.length pc2]] W fun e w' => e = .returned (.bool R2) ∧ Below w.heap.size w w') := fun W hb => by
          have := HC.out W hb
          rw [hx1, hx2] at this
          exact this
        have HBR := Hid.out (p := Hid _) hbr
        dsimp only at a0 a1 a2 b0 b1 b2
        clear HC hT hR2 hx1 hx2 HI hbr
        go_wp2_with fail
        refine Calls.mono (HC2.out _ ((HBR.out.alloc hsz _).alloc (by simp; omega) _)) ?_
        rintro e w1 ⟨rfl, hb1⟩
        have HB1 := Hid.out (p := Hid _) hb1
        clear HC2 hb1 a0 a1 a2 b0 b1 b2 hp hp2 hsz HBR
        cases R2 with
        | true =>
          go_wp2_with fail
          go_roundw
          case rel => exact ⟨k + 1, by omega, by go_num, HB1.out, HNX.out (by trivial)⟩
          case measure => simp [intOf]; omega
        | false =>
          obtain rfl : R = false := HNO.out rfl
          go_wp2_with fail
          go_ret
          exact ⟨rfl, HB1.out⟩
      · obtain rfl : k = n := by omega
        have hv : R = true := by
          rw [← HR.out]
          refine decide_eq_true ?_
          have := HI.out.2
          rw [List.take_of_length_le (by rw [List.length_map, HN.out.1]; exact Nat.le_refl _), List.take_of_length_le (by rw [List.length_map, HN.out.2]; exact Nat.le_refl _)] at this
          exact this
        subst hv
        have HB := HI.out.1
        have HBR := Hid.out (p := Hid _) HB
        clear HI HB
        go_wp2_with fail
        go_ret
        exact ⟨rfl, HBR.out⟩
  · have hd : decide (es.map En.o = fs.map En.o) = false := decide_eq_false (fun h => hl (by have := congrArg List.length h; simpa using this))
    rw [hd]
    obtain ⟨n, hnn⟩ : ∃ n, es.length = n := ⟨_, rfl⟩
    obtain ⟨m, hmm⟩ : ∃ n, fs.length = n := ⟨_, rfl⟩
    rw [hnn, hmm] at hl ⊢
    have hl' : ¬ (n : Int) = (m : Int) := by omega
    clear hE hF hok hok' hn hd hnn hmm
    go_enter Tryz.func33, Tryz.ntmps33
    go_wp2_with fail
    go_ret
    exact ⟨rfl, Below.refl _ _⟩
end

end Go.Proofs.YtelckcpjmekgcadGreatDoor
