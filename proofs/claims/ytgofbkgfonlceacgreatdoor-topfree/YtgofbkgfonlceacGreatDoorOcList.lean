/-
  The list of outcomes, while the program goes through states.
  Outcomes are noted down while the program goes through states.
-/
import Derived.Test.YtgofbkgfonlceacGreatDoorOcSame
import Derived.Test.YtgofbkgfonlceacGreatDoorWFollow
import Derived.Deep.RegionWith
namespace Go.Proofs.YtgofbkgfonlceacGreatDoor
section
open Go.RowKit Go.Sort Go.Shelf

/-- An outcome whose lists are the program's own. -/
structure EnJ (w : World) (B : Nat) (e : En) : Prop where
  ws : w.ownsRow B 3 1 (.slice e.wa e.o.ws.length e.wc) e.o.ws.length (intsV e.o.ws)
  pr : w.ownsRow B 3 1 (.slice e.pa e.o.pr.length e.pc) e.o.pr.length (intsV e.o.pr)
  wl : e.o.ws.length ≤ 100000
  pl : e.o.pr.length ≤ 100000
section
variable {w w' : World} {B : Nat} {e : En}
theorem EnJ.ok (h : EnJ w B e) : EnOk w e := ⟨IsI.iin ⟨rfl, h.ws⟩, IsI.iin ⟨rfl, h.pr⟩, h.wl, h.pl⟩
theorem EnJ.off (h : EnJ w B e) {g : Nat} {cs : Array Value} {t : TypeId} (hg : w.heap[g]? = some (.cells cs t (0, 0))) (ht : 3 ≠ t) : EnX w g e :=
  ⟨h.ok, fun p hp _ hb => own_type h.ws hg ht (by rw [hp]; exact congrArg some hb), fun p hp _ hb => own_type h.pr hg ht (by rw [hp]; exact congrArg some hb)⟩
theorem EnJ.fr {N : Nat → Obj → Prop} {C : Nat} (h : EnJ w B e) (hf : Fr C N w w') (hN : ∀ k c, ¬ N k (.cells c 3)) : EnJ w' B e := ⟨Fr.own h.ws hf hN, Fr.own h.pr hf hN, h.wl, h.pl⟩
end
/-- What those who look on may turn. -/
def NO (km : Nat) (k : Nat) (o : Obj) : Prop := k ≠ km ∧ ∃ c t fz, o = .cells c t fz ∧ (t = 67 ∨ t = 40)
theorem no_cells {km k : Nat} {c : Array Value} {t : TypeId} (h1 : t ≠ 67) (h2 : t ≠ 40) : ¬ NO km k (.cells c t) := fun h => by
  obtain ⟨_, c', t', fz, e, h⟩ := h
  injection e with _ e2
  rcases h with h | h
  · exact h1 (e2.trans h)
  · exact h2 (e2.trans h)
/-- The list as it lies. -/
structure OlI (W : World) (B km lb : Nat) (es : List En) : Prop where
  box : ∃ a c, W.heap[lb]? = some (.cells #[.slice a es.length c] 40) ∧ IsO W B a es.length c es ∧ ∀ p, a = some p → p.block ≠ km
  ok : ∀ e, e ∈ es → EnJ W B e
  up : km < W.heap.size
  low : B ≤ lb
  off : lb ≠ km
section
variable {W W' : World} {B km lb : Nat} {es : List En}
theorem OlI.fr {N : Nat → Obj → Prop} (h : OlI W B km lb es) (hf : Fr B N W W') (h1 : ∀ k c, ¬ N k (.cells c 3)) (h2 : ∀ k c, ¬ N k (.cells c 67)) (h3 : ∀ k c, ¬ N k (.cells c 40)) : OlI W' B km lb es := by
  obtain ⟨a, c, e1, e2, e3⟩ := h.box
  exact ⟨⟨a, c, hf.kept _ _ e1 (h3 _ _), ⟨e2.is, Fr.own e2.own hf h2⟩, e3⟩, fun e he => (h.ok e he).fr hf h1, Nat.lt_of_lt_of_le h.up hf.below.size, h.low, h.off⟩
theorem OlI.below (h : OlI W B km lb es) (hB : B ≤ W.heap.size) (hb : Below W.heap.size W W') : OlI W' B km lb es :=
  h.fr (N := fun _ _ => False) (Fr.of_below hB hb) (fun _ _ h => h) (fun _ _ h => h) (fun _ _ h => h)
/-- One more. -/
theorem OlI.push (h : OlI W B km lb es) (hB : B ≤ W.heap.size) (hlen : es.length ≤ 90000) (e : En) (he : EnJ W B e) : ∃ a c, W.cell? ⟨lb, 0, none⟩ = some (.slice a es.length c) ∧
    ∃ g cap w3, (AppS #[40, 40] 40 #[.slice a es.length c, .slice (some ⟨W.heap.size, 0, none⟩) 1 1]).run Tryz.prog (W.alloc (.cells #[.int .i64 e.o.st, .slice e.wa e.o.ws.length e.wc, .slice e.pa e.o.pr.length e.pc] 67)) = .ok (.slice (some ⟨g, 0, none⟩) (es.length + 1) cap) w3 ∧ w3.cell? ⟨lb, 0, none⟩ = some (.slice a es.length c) ∧ w3.frozen? ⟨lb, 0, none⟩ = false ∧
      Hid (OlI (w3.setCell ⟨lb, 0, none⟩ (.slice (some ⟨g, 0, none⟩) (es.length + 1) cap)) B km lb (es ++ [e]) ∧ Fr B (NO km) W (w3.setCell ⟨lb, 0, none⟩ (.slice (some ⟨g, 0, none⟩) (es.length + 1) cap))) := by
  obtain ⟨a, c, e1, e2, e3⟩ := h.box
  refine ⟨a, c, box_cell e1 rfl, ?_⟩
  obtain ⟨g, cap, w3, r1, r2, r3, r4⟩ := app_row (T := 40) Tryz.underlying40 infoOutcome rfl (by omega) e2.own (Below.refl _ _) hB 1 #[.int .i64 e.o.st, .slice e.wa e.o.ws.length e.wc, .slice e.pa e.o.pr.length e.pc] rfl (by simp [Value.oneCell']) (by omega) (by omega) (by omega)
  have hsz : W.heap.size + 1 ≤ w3.heap.size := by have := r3.size; simpa using this
  have hkeep : ∀ k, k < W.heap.size → (∀ p, a = some p → p.block ≠ k) → w3.heap[k]? = W.heap[k]? := fun k hk hne => by
    refine (r3.block k (by simp; omega) (fun e => ?_)).trans (Below.heap_alloc _ _ _ hk)
    cases a with
    | none => cases e
    | some p => exact hne p rfl (Option.some.inj e).symm
  have hlb := box_lt e1
  have hal : ∀ p, a = some p → p.block ≠ lb := fun p hp hb => own_type e2.own e1 (by decide) (by rw [hp]; exact congrArg some hb)
  have e1' : w3.heap[lb]? = some (.cells #[.slice a es.length c] 40) := (hkeep lb hlb hal).trans e1
  have hgl : g ≠ lb := fun e => by
    rcases r4 with r4 | r4
    · cases a with
      | none => cases r4
      | some p => exact hal p rfl ((Option.some.inj r4).trans e)
    · omega
  have hgk : g ≠ km := fun e => by
    have := h.up
    rcases r4 with r4 | r4
    · cases a with
      | none => cases r4
      | some p => exact e3 p rfl ((Option.some.inj r4).trans e)
    · omega
  have hfr : Fr B (NO km) W (w3.setCell ⟨lb, 0, none⟩ (.slice (some ⟨g, 0, none⟩) (es.length + 1) cap)) := by
    refine ⟨?_, fun k o hk hn => ?_⟩
    · exact (((Below.refl B W).alloc hB _).grown r3 (by simp; omega) (fun k hk => (e2.own.lt k hk).1)).setCell h.low _
    · have hkl : k ≠ lb := fun e => hn (by
        rw [e, e1] at hk
        rw [← Option.some.inj hk, e]
        exact ⟨h.off, _, _, _, rfl, Or.inr rfl⟩)
      rw [Below.heap_setCell _ _ _ _ hkl]
      refine (hkeep k (box_lt hk) (fun p hp hb => hn ?_)).trans hk
      rcases e2.own.2 with ⟨h0, _⟩ | ⟨g', cap', cur, hv, _, hh, _⟩
      · simp only [Value.slice.injEq] at h0
        rw [h0.1] at hp; cases hp
      · simp only [Value.slice.injEq] at hv
        rw [hv.1] at hp
        rw [← Option.some.inj hp] at hb
        have hb' : g' = k := hb
        rw [← hb', hh] at hk
        rw [← Option.some.inj hk]
        refine ⟨fun e => e3 _ hv.1 (hb'.trans e), _, _, _, rfl, Or.inl rfl⟩
  refine ⟨g, cap, w3, r1, box_cell e1' rfl, box_free e1', ⟨⟨some ⟨g, 0, none⟩, cap, ?_, ⟨rfl, ?_⟩, ?_⟩, ?_, ?_, h.low, h.off⟩, hfr⟩
  · rw [List.length_append, List.length_singleton]; exact heap_set_same e1'
  · rw [List.length_append, List.length_singleton, ensV_snoc]
    exact fam_keeps r2 (fun k hk => Below.heap_setCell _ _ _ _ (fun e => hgl ((Option.some.inj hk).trans e)))
  · intro p hp
    rw [← Option.some.inj hp]; exact hgk
  · intro x hx
    rcases List.mem_append.mp hx with hx | hx
    · exact (h.ok x hx).fr hfr (fun k c => no_cells (by decide) (by decide))
    · rw [List.mem_singleton.mp hx]; exact he.fr hfr (fun k c => no_cells (by decide) (by decide))
  · have := h.up
    show km < (w3.setCell _ _).heap.size
    simp [World.setCell]; omega
end
set_option maxRecDepth 100000 in
set_option maxHeartbeats 800000 in
/-- Prints. -/
theorem prints_any (w : World) (B : Nat) (Q : Cd) (sb mb : Nat) (v : Rp → Value) (s : Sx) (hs : QSt w B Q sb mb v s) (hn : s.prints.length ≤ 1000000) :
    Calls Tryz.prog 101 #[.pointer (some ⟨sb, 0, none⟩)] w fun e w' => ∃ a c, e = .returned (.slice a s.prints.length c) ∧ w'.ownsRow w.heap.size 3 1 (.slice a s.prints.length c) s.prints.length (intsV s.prints) ∧ Below w.heap.size w w' := by
  obtain ⟨pa, pc, hv⟩ := hs.form .prints
  change v .prints = .slice pa s.prints.length pc at hv
  have c2 := hs.c2
  rw [hv] at c2
  have hown := hs.fam.own .prints
  rw [hv] at hown
  have HC : Hid (Calls Tryz.prog 50 #[.slice pa s.prints.length pc] w fun e w' => ∃ a' c', e = .returned (.slice a' s.prints.length c') ∧ w'.ownsRow w.heap.size 3 1 (.slice a' s.prints.length c') s.prints.length (intsV s.prints) ∧ Below w.heap.size w w') := cloneI_row w B pa pc s.prints hown hn
  obtain ⟨n, hnn⟩ : ∃ n, s.prints.length = n := ⟨_, rfl⟩
  rw [hnn] at c2 HC ⊢
  clear hs hv hown hn hnn
  go_enter Tryz.func101, Tryz.ntmps101
  go_wp2_with fail
  refine Calls.mono HC.out ?_
  rintro e w1 ⟨a', c', rfl, h1, h2⟩
  go_wp2_with fail
  go_ret
  exact ⟨a', c', rfl, h1, h2⟩
end

section
open Go.RowKit Go.Sort Go.Shelf

theorem OlI.push_at {W : World} {B km lb : Nat} {es : List En} (h : OlI W B km lb es) (hB : B ≤ W.heap.size) {n : Nat} (hn : es.length = n) (hlen : n ≤ 90000) (e : En) (he : EnJ W B e) {a : Option Addr} {c : Nat} (hc : W.cell? ⟨lb, 0, none⟩ = some (.slice a n c)) : 
    ∃ g cap w3, (AppS #[40, 40] 40 #[.slice a n c, .slice (some ⟨W.heap.size, 0, none⟩) 1 1]).run Tryz.prog (W.alloc (.cells #[.int .i64 e.o.st, .slice e.wa e.o.ws.length e.wc, .slice e.pa e.o.pr.length e.pc] 67)) = .ok (.slice (some ⟨g, 0, none⟩) (n + 1) cap) w3 ∧ w3.cell? ⟨lb, 0, none⟩ = some (.slice a n c) ∧ w3.frozen? ⟨lb, 0, none⟩ = false ∧
      Hid (OlI (w3.setCell ⟨lb, 0, none⟩ (.slice (some ⟨g, 0, none⟩) (n + 1) cap)) B km lb (es ++ [e]) ∧ Fr B (NO km) W (w3.setCell ⟨lb, 0, none⟩ (.slice (some ⟨g, 0, none⟩) (n + 1) cap))) := by
  subst hn
  obtain ⟨a', c', h1, h2⟩ := h.push hB hlen e he
  rw [hc] at h1
  simp only [Option.some.injEq, Value.slice.injEq, true_and] at h1
  obtain ⟨rfl, rfl⟩ := h1
  exact h2

attribute [local go_sem ↓] appS_eq
set_option maxRecDepth 100000 in
set_option maxHeartbeats 1600000 in
/-- One fell. -/
theorem ofell_any (c : Wc) (lb : Nat) (W : World) (es : List En) (sb mb bb : Nat) (v : Rp → Value) (s : Sx) (hI : OlI W c.B c.km lb es) (hl : es.length ≤ 90000) (hq : QSt W 0 (c.Q.at bb) sb mb v s) (hp : s.prints.length ≤ 100000) (hB : c.B ≤ W.heap.size) :
    Calls Tryz.prog 102 #[.pointer (some ⟨sb, 0, none⟩), .pointer (some ⟨lb, 0, none⟩)] W fun e W' => e = .returned (.tuple #[]) ∧ Fr c.B (NO c.km) W W' ∧ ∃ x, x.o = ⟨1, [], s.prints⟩ ∧ OlI W' c.B c.km lb (es ++ [x]) := by
  obtain ⟨a, cp, hbx, _, _⟩ := hI.box
  have hcell : W.cell? ⟨lb, 0, none⟩ = some (.slice a es.length cp) := box_cell hbx rfl
  have HC : Hid (∀ V, Below W.heap.size W V → Calls Tryz.prog 101 #[.pointer (some ⟨sb, 0, none⟩)] V fun e w' => ∃ a c, e = .returned (.slice a s.prints.length c) ∧ w'.ownsRow V.heap.size 3 1 (.slice a s.prints.length c) s.prints.length (intsV s.prints) ∧ Below V.heap.size V w') := fun V hb => prints_any V 0 (c.Q.at bb) sb mb v s (hq.below hb) (by omega)
  have HI := Hid.out (p := Hid _) (And.intro hI hB)
  have HPL : Hid (s.prints.length ≤ 100000) := hp
  obtain ⟨n, hn⟩ : ∃ n, es.length = n := ⟨_, rfl⟩
  have HN : Hid (es.length = n) := hn
  obtain ⟨pn, hpn⟩ : ∃ n, s.prints.length = n := ⟨_, rfl⟩
  have HPN : Hid (s.prints.length = pn) := hpn
  rw [hn] at hcell hl
  rw [hpn] at HC
  have HFIN : Hid (∀ w2 pa pcc, w2.ownsRow W.drew.heap.size 3 1 (.slice pa pn pcc) pn (intsV s.prints) → Below W.drew.heap.size W.drew w2 → w2.cell? ⟨lb, 0, none⟩ = some (.slice a n cp) ∧ ∃ g cap w3, (AppS #[40, 40] 40 #[.slice a n cp, .slice (some ⟨w2.heap.size, 0, none⟩) 1 1]).run Tryz.prog (w2.alloc (.cells #[.int .i64 1, nilV, .slice pa pn pcc] 67)) = .ok (.slice (some ⟨g, 0, none⟩) (n + 1) cap) w3 ∧ w3.cell? ⟨lb, 0, none⟩ = some (.slice a n cp) ∧ w3.frozen? ⟨lb, 0, none⟩ = false ∧
      Hid (∃ x, x.o = ⟨1, [], s.prints⟩ ∧ OlI (w3.setCell ⟨lb, 0, none⟩ (.slice (some ⟨g, 0, none⟩) (n + 1) cap)) c.B c.km lb (es ++ [x]) ∧ Fr c.B (NO c.km) W (w3.setCell ⟨lb, 0, none⟩ (.slice (some ⟨g, 0, none⟩) (n + 1) cap)))) := fun w2 pa pcc h1 h2 => by
    have hb : Below W.heap.size W w2 := (Below.refl _ _).drew.trans h2
    have hc2 := (hb.cell (lt_of_cell hcell)).trans hcell
    refine ⟨hc2, ?_⟩
    have hJ : EnJ w2 c.B ⟨⟨1, [], s.prints⟩, none, 0, pa, pcc⟩ := ⟨World.ownsRow_nil _ _ _ _, by
      show World.ownsRow _ _ _ _ (.slice pa s.prints.length pcc) s.prints.length _
      rw [hpn]
      exact own_low h1 hB, Nat.zero_le _, hp⟩
    obtain ⟨g, cap, w3, r1, z1, z2, HH⟩ := (hI.below hB hb).push_at (Nat.le_trans hB hb.size) hn hl _ hJ hc2
    refine ⟨g, cap, w3, ?_, z1, z2, ⟨_, rfl, HH.out.1, (Fr.of_below hB hb).trans HH.out.2⟩⟩
    rw [← hpn]
    exact r1
  clear hI hbx hq hB hn hpn hp
  go_enter Tryz.func102, Tryz.ntmps102
  go_wp2_with fail
  go_region_with (go_at_call 101; refine Calls.mono (HC.out _ (Below.refl _ _).drew) ?_; rintro e w2 ⟨pa, pcc, rfl, ho2, hb2⟩; have HI2 := HFIN.out w2 pa pcc ho2 hb2; clear ho2 hb2; obtain ⟨z0, g, cap, w3, r1, z1, z2, HR⟩ := HI2; have z4 := cell_up z0)
  all_goals go_end0
  all_goals obtain ⟨x, hx, h1, h2⟩ := HR.out
  all_goals exact ⟨rfl, h2, x, hx, h1⟩
/-- What is noted of one that is seen. -/
def SeeQ (c : Wc) (lb : Nat) (W : World) (es : List En) (s : Sx) (W' : World) : Prop := Fr c.B (NO c.km) W W' ∧ ∃ es', OlI W' c.B c.km lb es' ∧ es'.length ≤ es.length + 1 ∧ ∀ o, o ∈ es'.map En.o ↔ o ∈ es.map En.o ∨ (movesX c.Q.L c.X c.mode s = [] ∧ o = ⟨if endedX c.Q.L s then 0 else 2, s.words, s.prints⟩)
set_option maxRecDepth 100000 in
set_option maxHeartbeats 3200000 in
/-- One is seen. -/
theorem osee_any (c : Wc) (hc : WcOk c) (lb : Nat) (W : World) (es : List En) (sb mb bb : Nat) (v : Rp → Value) (s : Sx) (k : Nat) (hI : OlI W c.B c.km lb es) (hl : es.length ≤ 90000) (hq : QSt W 0 (c.Q.at bb) sb mb v s) (hs : StP c k s) (hk : k ≤ 4500) (hlow : Below c.B c.w0 W) :
    Calls Tryz.prog 99 #[.pointer (some ⟨sb, 0, none⟩), .pointer (some ⟨lb, 0, none⟩)] W fun e W' => e = .returned (.tuple #[]) ∧ SeeQ c lb W es s W' := by
  have hB : c.B ≤ W.heap.size := by rw [hc.Bw]; exact hlow.size
  have HP : Hid (Calls Tryz.prog 81 #[.pointer (some ⟨sb, 0, none⟩)] W fun e w' => ∃ a len cp, e = .returned (.slice a len cp) ∧ (movesX c.Q.L c.X c.mode s).length = len ∧ Below W.heap.size W w') := by
    refine (picks_any W 0 (c.Q.at bb) sb mb v s c.ca c.X c.n c.m c.lk c.rg hc.n0 hq hc.hM (Nat.zero_le _) hc.nt hs.ok hc.cok (hc.prog.below (by have := hlow; rw [hc.Bw] at this; exact this))).mono ?_
    rintro e w' ⟨a, len, cp, he, hp, hb⟩
    exact ⟨a, len, cp, he, hp.is, hb⟩
  have hm16 : (movesX c.Q.L c.X c.mode s).length ≤ 16 := by
    have h1 := mvsT_len c.Q.L c.X c.mode s (fun t ht => hs.ok.wlen t (by rw [← hs.ok.ths]; exact ht)) s.ths.length (Nat.le_refl _)
    rw [mvsT_all] at h1
    have h2 := hs.ok.ths
    have h3 := hc.cok.n4
    omega
  obtain ⟨ML, hML⟩ : ∃ n, (movesX c.Q.L c.X c.mode s).length = n := ⟨_, rfl⟩
  have HML : Hid ((movesX c.Q.L c.X c.mode s).length = ML) := hML
  rw [hML] at HP hm16
  by_cases hz : ML = 0
  · subst hz
    have hnil : movesX c.Q.L c.X c.mode s = [] := List.eq_nil_of_length_eq_zero hML
    obtain ⟨st, hst⟩ : ∃ st : Int, (if endedX c.Q.L s then 0 else 2) = st := ⟨_, rfl⟩
    have HRE : Hid (∀ V, Below W.heap.size W V → Calls Tryz.prog 100 #[.pointer (some ⟨sb, 0, none⟩)] V fun e w' => e = .returned (.int .i64 st) ∧ Below V.heap.size V w') := fun V hb => by
      have h := rest_any V 0 (c.Q.at bb) sb mb v s c.n (hq.below hb) hs.ok.ths hc.n0 hc.cok.n4 hc.cok.L4 hs.ok.pc
      rw [← ended_bare (fun t ht => moves_bare hnil ht)] at h
      rw [← hst]
      exact h
    have HWO : Hid (∀ V, Below W.heap.size W V → Calls Tryz.prog 188 #[.pointer (some ⟨mb, 0, none⟩)] V fun e w' => ∃ a cap, e = .returned (.slice a s.words.length cap) ∧ w'.ownsRow V.heap.size 3 1 (.slice a s.words.length cap) s.words.length (intsV s.words) ∧ Below V.heap.size V w') := fun V hb => words_any V 0 (c.Q.at bb) sb mb v s (hq.below hb) (by rw [hs.ok.words]; exact hc.cok.m64)
    have HPR : Hid (∀ V, Below W.heap.size W V → Calls Tryz.prog 101 #[.pointer (some ⟨sb, 0, none⟩)] V fun e w' => ∃ a c, e = .returned (.slice a s.prints.length c) ∧ w'.ownsRow V.heap.size 3 1 (.slice a s.prints.length c) s.prints.length (intsV s.prints) ∧ Below V.heap.size V w') := fun V hb => prints_any V 0 (c.Q.at bb) sb mb v s (hq.below hb) (by have := hs.pr; omega)
    have HMW : Hid (∀ V, Below W.heap.size W V → (method 379 c.Q.K.tid (.pointer (some ⟨(c.Q.at bb).top mb, 0, none⟩)) "Words").run Tryz.prog V = .ok (188, .pointer (some ⟨mb, 0, none⟩)) V) := fun V hb => hc.hM.mWords V 0 (c.Q.at bb) sb mb v s rfl (hq.below hb)
    have HC0 : Hid (∀ V, Below W.heap.size W V → V.cell? ⟨sb, 0, none⟩ = some (.iface c.Q.K.tid (.pointer (some ⟨(c.Q.at bb).top mb, 0, none⟩)))) := fun V hb => (hq.below hb).c0
    obtain ⟨a, cp, hbx, _, _⟩ := hI.box
    have hcell : W.cell? ⟨lb, 0, none⟩ = some (.slice a es.length cp) := box_cell hbx rfl
    obtain ⟨n, hn⟩ : ∃ n, es.length = n := ⟨_, rfl⟩
    have HN : Hid (es.length = n) := hn
    obtain ⟨pn, hpn⟩ : ∃ n, s.prints.length = n := ⟨_, rfl⟩
    obtain ⟨wn, hwn⟩ : ∃ n, s.words.length = n := ⟨_, rfl⟩
    rw [hn] at hcell hl
    have HFIN : Hid (∀ w3 w4 b wa wcc pa pcc, W.heap.size ≤ b → w3.ownsRow b 3 1 (.slice wa wn wcc) wn (intsV s.words) → Below W.heap.size W w3 → w4.ownsRow w3.heap.size 3 1 (.slice pa pn pcc) pn (intsV s.prints) → Below w3.heap.size w3 w4 → ∃ g cap w5, (AppS #[40, 40] 40 #[.slice a n cp, .slice (some ⟨w4.heap.size, 0, none⟩) 1 1]).run Tryz.prog (w4.alloc (.cells #[.int .i64 st, .slice wa wn wcc, .slice pa pn pcc] 67)) = .ok (.slice (some ⟨g, 0, none⟩) (n + 1) cap) w5 ∧ w5.cell? ⟨lb, 0, none⟩ = some (.slice a n cp) ∧ w5.frozen? ⟨lb, 0, none⟩ = false ∧
        Hid (∃ x, x.o = ⟨st, s.words, s.prints⟩ ∧ OlI (w5.setCell ⟨lb, 0, none⟩ (.slice (some ⟨g, 0, none⟩) (n + 1) cap)) c.B c.km lb (es ++ [x]) ∧ Fr c.B (NO c.km) W (w5.setCell ⟨lb, 0, none⟩ (.slice (some ⟨g, 0, none⟩) (n + 1) cap)))) := fun w3 w4 b wa wcc pa pcc hb0 h1 h2 h3 h4 => by
      have hb : Below W.heap.size W w4 := h2.trans (h4.mono h2.size)
      have hc2 := (hb.cell (lt_of_cell hcell)).trans hcell
      have hJ : EnJ w4 c.B ⟨⟨st, s.words, s.prints⟩, wa, wcc, pa, pcc⟩ := ⟨by
        show World.ownsRow _ _ _ _ (.slice wa s.words.length wcc) s.words.length _
        rw [hwn]
        exact own_low (fam_keeps h1 (fun g hg => h4.block g (h1.lt g hg).2)) (Nat.le_trans hB hb0), by
        show World.ownsRow _ _ _ _ (.slice pa s.prints.length pcc) s.prints.length _
        rw [hpn]
        exact own_low h3 (Nat.le_trans hB h2.size), by
        show s.words.length ≤ _
        rw [hs.ok.words]; have := hc.cok.m64; omega, by
        show s.prints.length ≤ _
        have := hs.pr; omega⟩
      obtain ⟨g, cap, w5, r1, z1, z2, HH⟩ := (hI.below hB hb).push_at (Nat.le_trans hB hb.size) hn hl _ hJ hc2
      refine ⟨g, cap, w5, ?_, z1, z2, ⟨_, rfl, HH.out.1, (Fr.of_below hB hb).trans HH.out.2⟩⟩
      rw [← hpn, ← hwn]
      exact r1
    have HLB : Hid (∀ V, Below W.heap.size W V → V.cell? ⟨lb, 0, none⟩ = some (.slice a n cp)) := fun V hb => (hb.cell (lt_of_cell hcell)).trans hcell
    have HEND : Hid (∀ W', (∃ x, x.o = ⟨st, s.words, s.prints⟩ ∧ OlI W' c.B c.km lb (es ++ [x]) ∧ Fr c.B (NO c.km) W W') → SeeQ c lb W es s W') := fun W' ⟨x, hx, h1, h2⟩ => by
      refine ⟨h2, _, h1, by rw [List.length_append]; exact Nat.le_refl _, fun o => ?_⟩
      rw [List.map_append, List.mem_append, List.map_singleton, List.mem_singleton, hx, hst]
      exact ⟨fun h => h.imp id (fun h => ⟨hnil, h⟩), fun h => h.imp id (·.2)⟩
    rw [hwn] at HWO
    rw [hpn] at HPR
    clear hI hbx hq hB hn hpn hwn hs hk hlow hcell hc hst hML hnil HML
    go_enter Tryz.func99, Tryz.ntmps99
    go_wp2_with fail
    refine Calls.mono HP.out ?_
    rintro e w1 ⟨a1, l1, c1, rfl, rfl, hb1⟩
    have u0 := HC0.out w1 hb1
    have u1 := HLB.out w1 hb1
    clear HP
    go_wp2_with fail
    go_region_with (first | (go_at_call 100; refine Calls.mono (HRE.out _ hb1.drew) ?_; rintro e w2 ⟨rfl, hb2⟩; have hB2 : Below W.heap.size W w2 := hb1.drew.trans (hb2.mono hb1.size); have y0 := HC0.out w2 hB2; have y1 := HLB.out w2 hB2; have y2 := HMW.out w2 hB2) | (go_at_call 188; refine Calls.mono (HWO.out _ hB2) ?_; rintro e w3 ⟨wa, wcc, rfl, ho3, hb3⟩; have hB3 : Below W.heap.size W w3 := hB2.trans (hb3.mono hB2.size); have x1 := HLB.out w3 hB3) | (go_at_call 101; refine Calls.mono (HPR.out _ hB3) ?_; rintro e w4 ⟨pa, pcc, rfl, ho4, hb4⟩; have hB4 : Below W.heap.size W w4 := hB3.trans (hb4.mono hB3.size); have v1 := HLB.out w4 hB4; have v2 := cell_up v1; obtain ⟨g, cap, w5, r1, z1, z2, HR⟩ := HFIN.out w3 w4 _ wa wcc pa pcc hB2.size ho3 hB3 ho4 hb4; clear ho3 ho4))
    all_goals go_end0
    all_goals exact ⟨rfl, HEND.out _ HR.out⟩
  · have hne : movesX c.Q.L c.X c.mode s ≠ [] := fun e => hz (by rw [← hML, e]; rfl)
    have HI : Hid (∀ V, Below W.heap.size W V → SeeQ c lb W es s V) := fun V hb => ⟨Fr.of_below hB hb, es, hI.below hB hb, Nat.le_succ _, fun o => ⟨Or.inl, fun h => h.resolve_right (fun h => hne h.1)⟩⟩
    have hz' : ¬ (ML : Int) = 0 := by omega
    clear hI hq hB hs hk hlow hc hML hne
    go_enter Tryz.func99, Tryz.ntmps99
    go_wp2_with fail
    refine Calls.mono HP.out ?_
    rintro e w1 ⟨a1, l1, c1, rfl, rfl, hb1⟩
    clear HP
    go_wp2_with fail
    go_end0
    exact ⟨rfl, HI.out _ (by first | exact hb1 | exact hb1.drew)⟩
end

end Go.Proofs.YtgofbkgfonlceacGreatDoor
