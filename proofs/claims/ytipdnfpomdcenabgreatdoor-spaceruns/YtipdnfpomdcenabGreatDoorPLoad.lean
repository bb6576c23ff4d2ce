/-
  The memory with buffers: what a thread finds in a word.
-/
import Derived.Test.YtipdnfpomdcenabGreatDoorPBuf4
namespace Go.Proofs.YtipdnfpomdcenabGreatDoor
open Go.RowKit Go.Shelf

attribute [local go_sem] Oper.semAt_some

theorem finds_none {s : Sx} {t x : Nat} {l : List Wt} {f : Wt → Bool} (hf : f = fun y => !y.lk && decide (y.wh = (x : Int))) (hl : (thOf s t).wait = l) (h : ∀ y ∈ backTo l l.length, f y.2 = false) : findsW s t x = s.words.getD x 0 := by
  have hn : ∀ p, p < l.length → f (l.getD p default) = false := fun p hp => by
    have hm : (l.length - 1 - (l.length - 1 - p), l.getD (l.length - 1 - (l.length - 1 - p)) default) ∈ backTo l l.length := List.mem_map.2 ⟨l.length - 1 - p, List.mem_range.2 (by omega), rfl⟩
    have h2 := h _ hm
    rwa [show l.length - 1 - (l.length - 1 - p) = p by omega] at h2
  unfold findsW
  rw [hl, ← hf, back_none hn]
  simp
theorem finds_some {s : Sx} {t x k : Nat} {l : List Wt} {f : Wt → Bool} {p0 : List PW} {y : PW} (hf : f = fun y => !y.lk && decide (y.wh = (x : Int))) (hl : (thOf s t).wait = l) (hk : k ≤ l.length) (e : p0 ++ [y] = backTo l k) (hy : f y.2 = true) (hz : ∀ z ∈ p0, f z.2 = false) : findsW s t x = y.2.what := by
  have hlen : p0.length + 1 = k := by have := congrArg List.length e; simpa [backTo_length] using this
  subst hlen
  rw [backTo_succ] at e
  obtain ⟨e1, e2⟩ := List.append_inj' e rfl
  simp only [List.cons.injEq, and_true] at e2
  have ho : ∀ p, l.length - 1 - p0.length < p → p < l.length → f (l.getD p default) = false := fun p h1 h2 => by
    have hm : (l.length - 1 - (l.length - 1 - p), l.getD (l.length - 1 - (l.length - 1 - p)) default) ∈ backTo l p0.length := List.mem_map.2 ⟨l.length - 1 - p, List.mem_range.2 (by omega), rfl⟩
    rw [← e1] at hm
    have h3 := hz _ hm
    rwa [show l.length - 1 - (l.length - 1 - p) = p by omega] at h3
  have hy2 : f (l.getD (l.length - 1 - p0.length) default) = true := by rw [e2] at hy; exact hy
  unfold findsW
  rw [hl, ← hf, back_some (by omega) hy2 ho, e2]

/-- A box of one cell. -/
theorem box_in {W : World} {B : Nat} {v : Value} {t : TypeId} (h : W.heap[B]? = some (.cells #[v] t (0, 0))) : W.cell? ⟨B, 0, none⟩ = some v ∧ W.frozen? ⟨B, 0, none⟩ = false := by
  constructor <;> simp [World.cell?, World.frozen?, h]

set_option maxHeartbeats 1000000 in
theorem back_in (F : Fence) (n : Nat) (hF : F.fn 193) (hro : F.round = none) (a : Option Addr) (len cap : Nat) (w : World) :
    CallsIn F n Tryz.prog 193 #[.slice a len cap] w fun e w' => e = .returned (.func (.func 199) #[] #[.pointer (some ⟨w.heap.size, 0, none⟩)]) ∧ w' = w.alloc (.cells #[.slice a len cap] 251) := by
  refine callsIn_of_wp Tryz.func193 rfl hF ?_ hro
  simp only [Tryz.ntmps193, List.size_toArray, List.length_cons, List.length_nil, Nat.reduceAdd, Nat.reduceSub, Array.replicate_succ, Array.replicate_zero, List.push_toArray, List.append_toArray, List.nil_append, List.cons_append]
  gi_wp2
  go_ret
  exact ⟨rfl, rfl⟩
theorem back_stops (F : Fence) (n : Nat) (hF : F.fn 199) (hro : F.round = none) (hn : 1 ≤ n) (Bs n₀ : Nat) (qa : Option Addr) (qc : Nat) (l : List Wt) (hl : l.length ≤ 3) (w : World) (hBs : w.cell? ⟨Bs, 0, none⟩ = some (.slice qa l.length qc)) (hBn : Bs < n₀) (hn₀ : n₀ ≤ w.heap.size) (hc : WIn w qa l) (hq : ∀ b o, qa = some ⟨b, o, none⟩ → 0 < l.length → b < n₀) :
    SeqStopsK F n Tryz.prog 199 #[.pointer (some ⟨Bs, 0, none⟩)] pwV (Below n₀) (fun ys => ys = backTo l l.length) (fun pre => ∃ k, k ≤ l.length ∧ pre = backTo l k) l.length w := fun lp J Jx W hW _ _ hY h0 =>
  back1_in F n hF hro hn lp Bs n₀ qa qc l hl J Jx hY W ((hW.cell (p := ⟨Bs, 0, none⟩) (by show Bs < _; omega)).trans hBs) hBn (hc.below hW) hq h0

set_option maxRecDepth 100000 in
set_option maxHeartbeats 1000000 in
theorem bload_any (w : World) (B : Nat) (Q : Cd) (sb mb : Nat) (v : Rp → Value) (s : Sx) (t x : Nat) (hK : Q.K = bufK) (hp : MPre w B Q sb mb v s t) (hx : x < s.words.length) :
    Calls Tryz.prog 186 #[.pointer (some ⟨Q.bb, 0, none⟩), .int .i64 t, .int .i64 x] w fun e w' => e = .returned (.int .i64 (findsW s t x)) ∧ Below w.heap.size w w' := by
  have hb := buf_bf hK
  have hs := hp.hs
  have hnt := hp.hn
  have htl := hp.ht
  have hw3 := hp.hw
  have hn4 := hp.h4
  obtain ⟨lb, lc, hlv, hlb, hllb⟩ := hs.bufsB hb (by omega)
  obtain ⟨qa, qc, hq⟩ := hs.bufV hb t
  have hw0 := hs.b0 hb
  have b0 := cell_up2 (hs.b0 hb)
  have b1 := cell_up2 (hs.b1 hb)
  rw [hlv] at b1
  have bq := cell_up2 (hs.bufc hb hlb (t := t) (by omega))
  rw [hq] at bq
  obtain ⟨r, hr⟩ : ∃ r, s.words.getD x 0 = r := ⟨_, rfl⟩
  have HR : Hid (s.words.getD x 0 = r) := hr
  have HPL : Hid (∀ W, Below w.heap.size w W → Calls Tryz.prog 173 #[.pointer (some ⟨mb, 0, none⟩), .int .i64 t, .int .i64 (x : Int)] W fun e w' => e = .returned (.int .i64 r) ∧ w' = W) := fun W h => by rw [← hr]; exact pload_any W B Q sb mb v s t x (hs.below h) hp.hm hx
  have HWI : Hid (∀ W, Below w.heap.size w W → WIn W qa (thOf s t).wait) := fun W h => (hs.bwin hb hq).below h
  have HQL : Hid (∀ b o, qa = some ⟨b, o, none⟩ → 0 < (thOf s t).wait.length → b < w.heap.size) := fun b o e h => by
    obtain ⟨b', o', e', c0, _⟩ := hs.bwin hb hq 0 h
    rw [e] at e'
    simp only [Option.some.injEq, Addr.mk.injEq] at e'
    rw [e'.1]; exact lt_of_cell c0
  obtain ⟨l, hl⟩ : ∃ l, (thOf s t).wait = l := ⟨_, rfl⟩
  rw [hl] at bq hw3 HWI HQL
  obtain ⟨n, hn⟩ : ∃ m, Q.nt = m := ⟨_, rfl⟩
  rw [hn] at b1 hnt
  have htn : t < n := by omega
  have hn44 : n ≤ 4 := by omega
  have lbb : Q.bb < w.heap.size := lt_of_cell (hs.b0 hb)
  have HL : Hid ((thOf s t).wait = l) := hl
  clear hr hp hs hlv hlb hq hn hnt htl hn4 hl
  refine (callsIn_wide (n := 5)).1 ?_
  refine callsIn_of_wp_marks Tryz.func186 rfl trivial ?_ rfl
  simp only [Tryz.ntmps186, List.size_toArray, List.length_cons, List.length_nil, Nat.reduceAdd, Nat.reduceSub, Array.replicate_succ, Array.replicate_zero, List.push_toArray, List.append_toArray, List.nil_append, List.cons_append]
  gi_wp2
  refine ⟨trivial, (back_in Fence.wide 4 trivial rfl qa l.length qc _).mono ?_⟩
  rintro e w' ⟨rfl, rfl⟩
  gi_wp2
  obtain ⟨W0, hW0⟩ : ∃ W0, ((w.alloc (.cells #[.int .i64 (x : Int)] 3)).alloc (.cells #[.int .i64 0] 3)).alloc (.cells #[.slice qa l.length qc] 251) = W0 := ⟨_, rfl⟩
  have hs0 : W0.heap.size = w.heap.size + 3 := by rw [← hW0]; simp
  have hB0 : W0.heap[w.heap.size]? = some (.cells #[.int .i64 (x : Int)] 3 (0, 0)) := by
    rw [← hW0]; exact ((Below.heap_alloc _ _ _ (by simp; omega)).trans (Below.heap_alloc _ _ _ (by simp))).trans (World.alloc_heap_new w _)
  have hB1 : W0.heap[w.heap.size + 1]? = some (.cells #[.int .i64 0] 3 (0, 0)) := by
    rw [← hW0]; refine (Below.heap_alloc _ _ _ (by simp)).trans ?_
    have := World.alloc_heap_new (w.alloc (.cells #[.int .i64 (x : Int)] 3)) (.cells #[.int .i64 0] 3); rwa [World.size_alloc] at this
  have hB2 : W0.heap[w.heap.size + 1 + 1]? = some (.cells #[.slice qa l.length qc] 251 (0, 0)) := by
    rw [← hW0]; have := World.alloc_heap_new ((w.alloc (.cells #[.int .i64 (x : Int)] 3)).alloc (.cells #[.int .i64 0] 3)) (.cells #[.slice qa l.length qc] 251); rwa [World.size_alloc, World.size_alloc] at this
  have hbw : Below w.heap.size w W0 := by
    rw [← hW0]; exact (((Below.refl _ w).alloc (Nat.le_refl _) _).alloc (by simp) _).alloc (by simp; omega) _
  rw [hW0]
  obtain ⟨f, hf⟩ : ∃ f : Wt → Bool, f = fun y => !y.lk && decide (y.wh = (x : Int)) := ⟨_, rfl⟩
  refine wpIn_rangeFunc_ownH (F := Fence.wide) (n := 5) rfl (by omega) (gf := 199) (lb := #[.pointer (some ⟨w.heap.size + 1 + 1, 0, none⟩)]) rfl trivial (enters_of Tryz.func199 (by kernel_rfl) rfl)
    (back_stops Fence.wide 4 trivial rfl (by omega) (w.heap.size + 1 + 1) W0.heap.size qa qc l hw3 W0 (box_in hB2).1 (by omega) (Nat.le_refl _) (HWI.out _ hbw) (fun b o e h => by have := HQL.out b o e h; omega))
    belowK_t (belowK_b (Nat.le_refl _)) (Below.refl _ _) (fun _ => rfl)
    (fun pre W => (∀ y ∈ pre, f y.2 = false) ∧ Below W0.heap.size W0 W)
    (fun c pre W => (c = .ret ∧ ∃ p0 y, pre = p0 ++ [y] ∧ f y.2 = true ∧ (∀ z ∈ p0, f z.2 = false) ∧ W.cell? ⟨w.heap.size + 1, 0, none⟩ = some (.int .i64 y.2.what)) ∧ Below w.heap.size w W)
    (OwnFrom.and (ownFrom_pure _ _) (ownFrom_below (Nat.le_refl _) (Nat.le_refl _)))
    (fun c => OwnFrom.and (Own.from (fun s A B row hs hg hr => by obtain ⟨h1, p0, y, h2, h3, h4, h5⟩ := hs; exact ⟨h1, p0, y, h2, h3, h4, cell_kept h5 hg hr⟩) _) (ownFrom_below (Nat.le_refl _) (by omega)))
    ⟨by simp, Below.refl _ _⟩
    (fun y a' W => ∃ Bx : Nat, (W.cell? ⟨Bx, 0, none⟩ = some (.bool y.2.lk) ∧ W.cell? ⟨Bx, 1, none⟩ = some (.int .i64 y.2.wh) ∧ W.cell? ⟨Bx, 2, none⟩ = some (.int .i64 y.2.what)) ∧ a' = { tmps := #[.pointer (some ⟨Q.bb, 0, none⟩), .int .i64 t, .int .i64 x, undef, undef, .pointer (some ⟨w.heap.size, 0, none⟩), .pointer (some ⟨w.heap.size + 1, 0, none⟩), undef, .pointer (some ⟨Bx, 0, none⟩),
          .pointer (some ⟨Q.bb, 0, none⟩), .pointer (some ⟨Q.bb, 0, none⟩), .pointer (some ⟨Q.bb, 1, none⟩), .slice (some ⟨lb, 0, none⟩) n lc, .int .i64 t, .pointer (some ⟨lb, t, none⟩), .slice qa l.length qc,
          .func (.func 199) #[] #[.pointer (some ⟨w.heap.size + 1 + 1, 0, none⟩)], .int .i64 (y.1 : Int), .agg #[.bool y.2.lk, .int .i64 y.2.wh, .int .i64 y.2.what], undef, undef, undef, undef, undef, undef, undef, undef, undef, undef, undef, undef, undef, undef], defers := [] })
    (fun y a' => Own.from (fun s A B row hs hg hr => by obtain ⟨Bx, ⟨h1, h2, h3⟩, h4⟩ := hs; exact ⟨Bx, ⟨cell_kept h1 hg hr, cell_kept h2 hg hr, cell_kept h3 hg hr⟩, h4⟩) _) ?assign ?body ?done ?stop
  case assign =>
    rintro lp pre ⟨i, lk, wh, what⟩ W K ⟨h1, hbW⟩ hK
    clear hB0 hB1 hB2 hW0
    simp only [pwV] at hK ⊢
    gi_wp2
    exact hK _ _ ((KeepsOthers.alloc _ _).from _) ((Below.refl _ _).alloc hbW.size _) ⟨h1, hbW.alloc hbW.size _⟩ ⟨W.heap.size, ⟨World.cell?_alloc_new _ _ _ _, World.cell?_alloc_new _ _ _ _, World.cell?_alloc_new _ _ _ _⟩, rfl⟩
  case body =>
    rintro lp pre ⟨i, lk, wh, what⟩ a' W hlp hlr ⟨h1, hbW⟩ ⟨Bx, ⟨d0, d1, d2⟩, rfl⟩ hN
    have c0 : W.cell? ⟨w.heap.size, 0, none⟩ = some (.int .i64 (x : Int)) := (hbW.cell (p := ⟨w.heap.size, 0, none⟩) (by show w.heap.size < _; omega)).trans (box_in hB0).1
    have c1 : W.cell? ⟨w.heap.size + 1, 0, none⟩ = some (.int .i64 0) := (hbW.cell (p := ⟨w.heap.size + 1, 0, none⟩) (by show w.heap.size + 1 < _; omega)).trans (box_in hB1).1
    have f1 : W.frozen? ⟨w.heap.size + 1, 0, none⟩ = false := (hbW.frozen (p := ⟨w.heap.size + 1, 0, none⟩) (by show w.heap.size + 1 < _; omega)).trans (box_in hB1).2
    have HN : Hid (∀ e a'' W'', f ⟨lk, wh, what⟩ = false → e = Exit.normal → W'' = W → ownPostG W0.heap.size (Below W0.heap.size) (fun pre W => (∀ y ∈ pre, f y.2 = false) ∧ Below W0.heap.size W0 W) (fun c pre W => (c = .ret ∧ ∃ p0 y, pre = p0 ++ [y] ∧ f y.2 = true ∧ (∀ z ∈ p0, f z.2 = false) ∧ W.cell? ⟨w.heap.size + 1, 0, none⟩ = some (.int .i64 y.2.what)) ∧ Below w.heap.size w W) (pre ++ [(i, ⟨lk, wh, what⟩)]) W e a'' W'') := fun e a'' W'' hh he hW => by
      subst he; subst hW
      refine ⟨KeepsFrom.refl _ _, Below.refl _ _, fun y hy => ?_, hbW⟩
      rcases List.mem_append.1 hy with h | h
      · exact h1 y h
      · simp only [List.mem_singleton] at h; subst h; exact hh
    simp only at d0 d1 d2 ⊢
    cases lk
    · by_cases he : (x : Int) = wh
      · subst he
        gi_wp2
        refine ⟨(KeepsOthers.setCell _ _ _).from _, ⟨rfl, pre, _, rfl, by rw [hf]; simp, h1, World.cell?_setCell_same' _ _ _ (by rw [c1]; rfl)⟩, ?_⟩
        exact (hbw.trans (hbW.mono (by omega))).setCell (by show w.heap.size ≤ w.heap.size + 1; omega) _
      · have he' : ¬ wh = (x : Int) := fun e => he e.symm
        gi_wp2
        exact HN.out _ _ _ (by rw [hf]; simp [he']) rfl rfl
    · gi_wp2
      exact HN.out _ _ _ (by rw [hf]; simp) rfl rfl
  case done =>
    rintro D xs W hD hS ⟨h1, hbW⟩ hDD
    have hbw' : Below w.heap.size w W := hbw.trans (hbW.mono (by omega))
    have c0 : W.cell? ⟨w.heap.size, 0, none⟩ = some (.int .i64 (x : Int)) := (hbW.cell (p := ⟨w.heap.size, 0, none⟩) (by show w.heap.size < _; omega)).trans (box_in hB0).1
    have c1 : W.cell? ⟨w.heap.size + 1, 0, none⟩ = some (.int .i64 0) := (hbW.cell (p := ⟨w.heap.size + 1, 0, none⟩) (by show w.heap.size + 1 < _; omega)).trans (box_in hB1).1
    have f1 : W.frozen? ⟨w.heap.size + 1, 0, none⟩ = false := (hbW.frozen (p := ⟨w.heap.size + 1, 0, none⟩) (by show w.heap.size + 1 < _; omega)).trans (box_in hB1).2
    have g0 := (hbw'.cell (p := ⟨Q.bb, 0, none⟩) lbb).trans hw0
    have hfin : findsW s t x = s.words.getD x 0 := finds_none hf HL.out (by rw [← hS]; exact h1)
    have HFIN : Hid (findsW s t x = r) := hfin.trans HR.out
    have HBW : Hid (Below w.heap.size w W) := hbw'
    have HDD : Hid (W.heap[D]? = some (.deferred (some []))) := hDD
    have hDw : w.heap.size ≤ D := by omega
    have HC1 : Hid (W.cell? ⟨w.heap.size + 1, 0, none⟩ = some (.int .i64 0)) := c1
    clear hB0 hB1 hB2 hW0 hS h1 hbW hbw hfin hf hDD hbw'
    gi_wp2
    refine wpIn_wide.2 ?_
    refine region_tail 6 (by kernel_rfl) (by kernel_rfl) ?_
    simp only [List.take_succ_cons, List.take_zero, List.drop_succ_cons, List.drop_zero]
    repeat still_step
    refine wpStill_nil ?_
    go_wp2_with fail
    refine Calls.mono (HPL.out _ HBW.out.drew) ?_
    rintro e w5 ⟨rfl, rfl⟩
    go_wp2_with fail
    gi_wp2
    have hK' : ((W.setCell ⟨w.heap.size + 1, 0, none⟩ (.int .i64 r)).drew).heap[D]? = some (.deferred (some [])) := (KeepsOthers.setCell W ⟨w.heap.size + 1, 0, none⟩ (.int .i64 r)).same D _ HDD.out rfl
    refine ⟨by simp, .inl ⟨_, _, rfl, run_takeDeferred hK', ?_⟩⟩
    have hc4 : ((W.setCell ⟨w.heap.size + 1, 0, none⟩ (.int .i64 r)).drew).cell? ⟨w.heap.size + 1, 0, none⟩ = some (.int .i64 r) := World.cell?_setCell_same' W ⟨w.heap.size + 1, 0, none⟩ (.int .i64 r) (by rw [HC1.out]; rfl)
    have hc5 := cell_kept hc4 (grownBy_putObj' _ D (.deferred none)) (fun r e => by cases e; exact ⟨_, hK', rfl⟩)
    refine ⟨.int .i64 r, ?_, by rw [HFIN.out], ((HBW.out.setCell (by show w.heap.size ≤ w.heap.size + 1; omega) _).drew).trans (belowK_b (w := w) (Nat.le_refl _) _ D _ _ hDw hK' rfl rfl)⟩
    simp [results, Tryz.f186, go_sem, hc5]
  case stop =>
    rintro D c pre W hD ⟨k, hk, hpre⟩ ⟨⟨rfl, p0, y, hp0, hy, hz, hcr⟩, hbW⟩ hDD
    have hfin : findsW s t x = y.2.what := finds_some hf HL.out hk (hp0.symm.trans hpre) hy hz
    clear hB0 hB1 hB2 hW0
    gi_wp2
    refine ⟨by simp, .inl ⟨_, _, rfl, run_takeDeferred hDD, ?_⟩⟩
    have hc5 := cell_kept hcr (grownBy_putObj' _ D (.deferred none)) (fun r e => by cases e; exact ⟨_, hDD, rfl⟩)
    refine ⟨.int .i64 y.2.what, ?_, by rw [hfin], hbW.trans (belowK_b (w := w) (Nat.le_refl _) W D _ _ (by omega) hDD rfl rfl)⟩
    simp [results, Tryz.f186, go_sem, hc5]

end Go.Proofs.YtipdnfpomdcenabGreatDoor
