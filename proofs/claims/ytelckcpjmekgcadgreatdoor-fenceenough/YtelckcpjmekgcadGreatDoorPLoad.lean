/-
  The memory with buffers: what a thread finds in a word.
  The memory with buffers is a memory: its methods do what the program asks of one.
  What the program tells of a state, a number at a time.
  Copies of lists, whatever they hold.
-/
import Derived.Test.YtelckcpjmekgcadGreatDoorPBuf4
import Derived.Test.YtelckcpjmekgcadGreatDoorPBuf6
import Derived.Test.YtelckcpjmekgcadGreatDoorPNew
import Derived.Test.YtelckcpjmekgcadGreatDoorZPut
namespace Go.Proofs.YtelckcpjmekgcadGreatDoor
section
open Go.RowKit Go.Shelf

attribute [local go_sem] Oper.semAt_some

theorem finds_none {s : Sx} {t x : Nat} {l : List Wt} {f : Wt → Bool} (hf : f = fun y => !y.lk && decide (y.wh = (x : Int))) (hl : (thOf s t).wait = l) (h : ∀ y ∈ backTo l l.length, f y.2 = false) : findsW s t x = s.words.getD x 0 := by
  have hn : ∀ p, p < l.length → f (l.getD p default) = false := fun p hp => by
    have hm : (l.length - 1 - (l.length - 1 - p), l.getD (l.length - 1 - (l.length - 1 - p)) default) ∈ backTo l l.length := List.mem_map.2 ⟨l.length - 1 - p, List.mem_range.2 (by omega), rfl⟩
    have h2 := h _ hm
    rwa [show l.length - 1 - (l.length - 1 - p) = p by omega] at h2
  unfold findsW
  rw [hl, ← hf, back_none hn]
  simp
theorem finds_some {s : Sx} {t x k : Nat} {l : List Wt} {f : Wt → Bool} {p0 : List PW} {y : PW} (hf : f = fun y => !y.lk && decide (y.wh = (x : Int))) (hl : (thOf s t).wait = l) (hk : k ≤ l.length) (e : p0 ++ [y] = backTo l k) (hy : f y.2 = true) (hz : ∀ z ∈ p0, f z.2 = false) : findsW s t x = y.2.what := by
  have hlen : p0.length + 1 = k := by have := congrArg List.length e; simpa [backTo_length] using this
  subst hlen
  rw [backTo_succ] at e
  obtain ⟨e1, e2⟩ := List.append_inj' e rfl
  simp only [List.cons.injEq, and_true] at e2
  have ho : ∀ p, l.length - 1 - p0.length < p → p < l.length → f (l.getD p default) = false := fun p h1 h2 => by
    have hm : (l.length - 1 - (l.length - 1 - p), l.getD (l.length - 1 - (l.length - 1 - p)) default) ∈ backTo l p0.length := List.mem_map.2 ⟨l.length - 1 - p, List.mem_range.2 (by omega), rfl⟩
    rw [← e1] at hm
    have h3 := hz _ hm
    rwa [show l.length - 1 - (l.length - 1 - p) = p by omega] at h3
  have hy2 : f (l.getD (l.length - 1 - p0.length) default) = true := by rw [e2] at hy; exact hy
  unfold findsW
  rw [hl, ← hf, back_some (by omega) hy2 ho, e2]

/-- A box of one cell. -/
theorem box_in {W : World} {B : Nat} {v : Value} {t : TypeId} (h : W.heap[B]? = some (.cells #[v] t (0, 0))) : W.cell? ⟨B, 0, none⟩ = some v ∧ W.frozen? ⟨B, 0, none⟩ = false := by
  constructor <;> simp [World.cell?, World.frozen?, h]

set_option maxHeartbeats 1000000 in
theorem back_in (F : Fence) (n : Nat) (hF : F.fn 150) (hro : F.round = none) (a : Option Addr) (len cap : Nat) (w : World) :
    CallsIn F n Tryz.prog 150 #[.slice a len cap] w fun e w' => e = .returned (.func (.func 156) #[] #[.pointer (some ⟨w.heap.size, 0, none⟩)]) ∧ w' = w.alloc (.cells #[.slice a len cap] 204) := by
  refine callsIn_of_wp Tryz.func150 rfl hF ?_ hro
  simp only [Tryz.ntmps150, List.size_toArray, List.length_cons, List.length_nil, Nat.reduceAdd, Nat.reduceSub, Array.replicate_succ, Array.replicate_zero, List.push_toArray, List.append_toArray, List.nil_append, List.cons_append]
  gi_wp2
  go_ret
  exact ⟨rfl, rfl⟩
theorem back_stops (F : Fence) (n : Nat) (hF : F.fn 156) (hro : F.round = none) (hn : 1 ≤ n) (Bs n₀ : Nat) (qa : Option Addr) (qc : Nat) (l : List Wt) (hl : l.length ≤ 3) (w : World) (hBs : w.cell? ⟨Bs, 0, none⟩ = some (.slice qa l.length qc)) (hBn : Bs < n₀) (hn₀ : n₀ ≤ w.heap.size) (hc : WIn w qa l) (hq : ∀ b o, qa = some ⟨b, o, none⟩ → 0 < l.length → b < n₀) :
    SeqStopsK F n Tryz.prog 156 #[.pointer (some ⟨Bs, 0, none⟩)] pwV (Below n₀) (fun ys => ys = backTo l l.length) (fun pre => ∃ k, k ≤ l.length ∧ pre = backTo l k) l.length w := fun lp J Jx W hW _ _ hY h0 =>
  back1_in F n hF hro hn lp Bs n₀ qa qc l hl J Jx hY W ((hW.cell (p := ⟨Bs, 0, none⟩) (by show Bs < _; omega)).trans hBs) hBn (hc.below hW) hq h0

set_option maxRecDepth 100000 in
set_option maxHeartbeats 1000000 in
theorem bload_any (w : World) (B : Nat) (Q : Cd) (sb mb : Nat) (v : Rp → Value) (s : Sx) (t x : Nat) (hK : Q.K = bufK) (hp : MPre w B Q sb mb v s t) (hx : x < s.words.length) :
    Calls Tryz.prog 143 #[.pointer (some ⟨Q.bb, 0, none⟩), .int .i64 t, .int .i64 x] w fun e w' => e = .returned (.int .i64 (findsW s t x)) ∧ Below w.heap.size w w' := by
  have hb := buf_bf hK
  have hs := hp.hs
  have hnt := hp.hn
  have htl := hp.ht
  have hw3 := hp.hw
  have hn4 := hp.h4
  obtain ⟨lb, lc, hlv, hlb, hllb⟩ := hs.bufsB hb (by omega)
  obtain ⟨qa, qc, hq⟩ := hs.bufV hb t
  have hw0 := hs.b0 hb
  have b0 := cell_up2 (hs.b0 hb)
  have b1 := cell_up2 (hs.b1 hb)
  rw [hlv] at b1
  have bq := cell_up2 (hs.bufc hb hlb (t := t) (by omega))
  rw [hq] at bq
  obtain ⟨r, hr⟩ : ∃ r, s.words.getD x 0 = r := ⟨_, rfl⟩
  have HR : Hid (s.words.getD x 0 = r) := hr
  have HPL : Hid (∀ W, Below w.heap.size w W → Calls Tryz.prog 130 #[.pointer (some ⟨mb, 0, none⟩), .int .i64 t, .int .i64 (x : Int)] W fun e w' => e = .returned (.int .i64 r) ∧ w' = W) := fun W h => by rw [← hr]; exact pload_any W B Q sb mb v s t x (hs.below h) hp.hm hx
  have HWI : Hid (∀ W, Below w.heap.size w W → WIn W qa (thOf s t).wait) := fun W h => (hs.bwin hb hq).below h
  have HQL : Hid (∀ b o, qa = some ⟨b, o, none⟩ → 0 < (thOf s t).wait.length → b < w.heap.size) := fun b o e h => by
    obtain ⟨b', o', e', c0, _⟩ := hs.bwin hb hq 0 h
    rw [e] at e'
    simp only [Option.some.injEq, Addr.mk.injEq] at e'
    rw [e'.1]; exact lt_of_cell c0
  obtain ⟨l, hl⟩ : ∃ l, (thOf s t).wait = l := ⟨_, rfl⟩
  rw [hl] at bq hw3 HWI HQL
  obtain ⟨n, hn⟩ : ∃ m, Q.nt = m := ⟨_, rfl⟩
  rw [hn] at b1 hnt
  have htn : t < n := by omega
  have hn44 : n ≤ 4 := by omega
  have lbb : Q.bb < w.heap.size := lt_of_cell (hs.b0 hb)
  have HL : Hid ((thOf s t).wait = l) := hl
  clear hr hp hs hlv hlb hq hn hnt htl hn4 hl
  refine (callsIn_wide (n := 5)).1 ?_
  refine callsIn_of_wp_marks Tryz.func143 rfl trivial ?_ rfl
  simp only [Tryz.ntmps143, List.size_toArray, List.length_cons, List.length_nil, Nat.reduceAdd, Nat.reduceSub, Array.replicate_succ, Array.replicate_zero, List.push_toArray, List.append_toArray, List.nil_append, List.cons_append]
  gi_wp2
  refine ⟨trivial, (back_in Fence.wide 4 trivial rfl qa l.length qc _).mono ?_⟩
  rintro e w' ⟨rfl, rfl⟩
  gi_wp2
  obtain ⟨W0, hW0⟩ : ∃ W0, ((w.alloc (.cells #[.int .i64 (x : Int)] 3)).alloc (.cells #[.int .i64 0] 3)).alloc (.cells #[.slice qa l.length qc] 204) = W0 := ⟨_, rfl⟩
  have hs0 : W0.heap.size = w.heap.size + 3 := by rw [← hW0]; simp
  have hB0 : W0.heap[w.heap.size]? = some (.cells #[.int .i64 (x : Int)] 3 (0, 0)) := by
    rw [← hW0]; exact ((Below.heap_alloc _ _ _ (by simp; omega)).trans (Below.heap_alloc _ _ _ (by simp))).trans (World.alloc_heap_new w _)
  have hB1 : W0.heap[w.heap.size + 1]? = some (.cells #[.int .i64 0] 3 (0, 0)) := by
    rw [← hW0]; refine (Below.heap_alloc _ _ _ (by simp)).trans ?_
    have := World.alloc_heap_new (w.alloc (.cells #[.int .i64 (x : Int)] 3)) (.cells #[.int .i64 0] 3); rwa [World.size_alloc] at this
  have hB2 : W0.heap[w.heap.size + 1 + 1]? = some (.cells #[.slice qa l.length qc] 204 (0, 0)) := by
    rw [← hW0]; have := World.alloc_heap_new ((w.alloc (.cells #[.int .i64 (x : Int)] 3)).alloc (.cells #[.int .i64 0] 3)) (.cells #[.slice qa l.length qc] 204); rwa [World.size_alloc, World.size_alloc] at this
  have hbw : Below w.heap.size w W0 := by
    rw [← hW0]; exact (((Below.refl _ w).alloc (Nat.le_refl _) _).alloc (by simp) _).alloc (by simp; omega) _
  rw [hW0]
  obtain ⟨f, hf⟩ : ∃ f : Wt → Bool, f = fun y => !y.lk && decide (y.wh = (x : Int)) := ⟨_, rfl⟩
  refine wpIn_rangeFunc_ownH (F := Fence.wide) (n := 5) rfl (by omega) (gf := 156) (lb := #[.pointer (some ⟨w.heap.size + 1 + 1, 0, none⟩)]) rfl trivial (enters_of Tryz.func156 (by kernel_rfl) rfl)
    (back_stops Fence.wide 4 trivial rfl (by omega) (w.heap.size + 1 + 1) W0.heap.size qa qc l hw3 W0 (box_in hB2).1 (by omega) (Nat.le_refl _) (HWI.out _ hbw) (fun b o e h => by have := HQL.out b o e h; omega))
    belowK_t (belowK_b (Nat.le_refl _)) (Below.refl _ _) (fun _ => rfl)
    (fun pre W => (∀ y ∈ pre, f y.2 = false) ∧ Below W0.heap.size W0 W)
    (fun c pre W => (c = .ret ∧ ∃ p0 y, pre = p0 ++ [y] ∧ f y.2 = true ∧ (∀ z ∈ p0, f z.2 = false) ∧ W.cell? ⟨w.heap.size + 1, 0, none⟩ = some (.int .i64 y.2.what)) ∧ Below w.heap.size w W)
    (OwnFrom.and (ownFrom_pure _ _) (ownFrom_below (Nat.le_refl _) (Nat.le_refl _)))
    (fun c => OwnFrom.and (Own.from (fun s A B row hs hg hr => by obtain ⟨h1, p0, y, h2, h3, h4, h5⟩ := hs; exact ⟨h1, p0, y, h2, h3, h4, cell_kept h5 hg hr⟩) _) (ownFrom_below (Nat.le_refl _) (by omega)))
    ⟨by simp, Below.refl _ _⟩
    (fun y a' W => ∃ Bx : Nat, (W.cell? ⟨Bx, 0, none⟩ = some (.bool y.2.lk) ∧ W.cell? ⟨Bx, 1, none⟩ = some (.int .i64 y.2.wh) ∧ W.cell? ⟨Bx, 2, none⟩ = some (.int .i64 y.2.what)) ∧ a' = { tmps := #[.pointer (some ⟨Q.bb, 0, none⟩), .int .i64 t, .int .i64 x, undef, undef, .pointer (some ⟨w.heap.size, 0, none⟩), .pointer (some ⟨w.heap.size + 1, 0, none⟩), undef, .pointer (some ⟨Bx, 0, none⟩),
          .pointer (some ⟨Q.bb, 0, none⟩), .pointer (some ⟨Q.bb, 0, none⟩), .pointer (some ⟨Q.bb, 1, none⟩), .slice (some ⟨lb, 0, none⟩) n lc, .int .i64 t, .pointer (some ⟨lb, t, none⟩), .slice qa l.length qc,
          .func (.func 156) #[] #[.pointer (some ⟨w.heap.size + 1 + 1, 0, none⟩)], .int .i64 (y.1 : Int), .agg #[.bool y.2.lk, .int .i64 y.2.wh, .int .i64 y.2.what], undef, undef, undef, undef, undef, undef, undef, undef, undef, undef, undef, undef, undef, undef], defers := [] })
    (fun y a' => Own.from (fun s A B row hs hg hr => by obtain ⟨Bx, ⟨h1, h2, h3⟩, h4⟩ := hs; exact ⟨Bx, ⟨cell_kept h1 hg hr, cell_kept h2 hg hr, cell_kept h3 hg hr⟩, h4⟩) _) ?assign ?body ?done ?stop
  case assign =>
    rintro lp pre ⟨i, lk, wh, what⟩ W K ⟨h1, hbW⟩ hK
    clear hB0 hB1 hB2 hW0
    simp only [pwV] at hK ⊢
    gi_wp2
    exact hK _ _ ((KeepsOthers.alloc _ _).from _) ((Below.refl _ _).alloc hbW.size _) ⟨h1, hbW.alloc hbW.size _⟩ ⟨W.heap.size, ⟨World.cell?_alloc_new _ _ _ _, World.cell?_alloc_new _ _ _ _, World.cell?_alloc_new _ _ _ _⟩, rfl⟩
  case body =>
    rintro lp pre ⟨i, lk, wh, what⟩ a' W hlp hlr ⟨h1, hbW⟩ ⟨Bx, ⟨d0, d1, d2⟩, rfl⟩ hN
    have c0 : W.cell? ⟨w.heap.size, 0, none⟩ = some (.int .i64 (x : Int)) := (hbW.cell (p := ⟨w.heap.size, 0, none⟩) (by show w.heap.size < _; omega)).trans (box_in hB0).1
    have c1 : W.cell? ⟨w.heap.size + 1, 0, none⟩ = some (.int .i64 0) := (hbW.cell (p := ⟨w.heap.size + 1, 0, none⟩) (by show w.heap.size + 1 < _; omega)).trans (box_in hB1).1
    have f1 : W.frozen? ⟨w.heap.size + 1, 0, none⟩ = false := (hbW.frozen (p := ⟨w.heap.size + 1, 0, none⟩) (by show w.heap.size + 1 < _; omega)).trans (box_in hB1).2
    have HN : Hid (∀ e a'' W'', f ⟨lk, wh, what⟩ = false → e = Exit.normal → W'' = W → ownPostG W0.heap.size (Below W0.heap.size) (fun pre W => (∀ y ∈ pre, f y.2 = false) ∧ Below W0.heap.size W0 W) (fun c pre W => (c = .ret ∧ ∃ p0 y, pre = p0 ++ [y] ∧ f y.2 = true ∧ (∀ z ∈ p0, f z.2 = false) ∧ W.cell? ⟨w.heap.size + 1, 0, none⟩ = some (.int .i64 y.2.what)) ∧ Below w.heap.size w W) (pre ++ [(i, ⟨lk, wh, what⟩)]) W e a'' W'') := fun e a'' W'' hh he hW => by
      subst he; subst hW
      refine ⟨KeepsFrom.refl _ _, Below.refl _ _, fun y hy => ?_, hbW⟩
      rcases List.mem_append.1 hy with h | h
      · exact h1 y h
      · simp only [List.mem_singleton] at h; subst h; exact hh
    simp only at d0 d1 d2 ⊢
    cases lk
    · by_cases he : (x : Int) = wh
      · subst he
        gi_wp2
        refine ⟨(KeepsOthers.setCell _ _ _).from _, ⟨rfl, pre, _, rfl, by rw [hf]; simp, h1, World.cell?_setCell_same' _ _ _ (by rw [c1]; rfl)⟩, ?_⟩
        exact (hbw.trans (hbW.mono (by omega))).setCell (by show w.heap.size ≤ w.heap.size + 1; omega) _
      · have he' : ¬ wh = (x : Int) := fun e => he e.symm
        gi_wp2
        exact HN.out _ _ _ (by rw [hf]; simp [he']) rfl rfl
    · gi_wp2
      exact HN.out _ _ _ (by rw [hf]; simp) rfl rfl
  case done =>
    rintro D xs W hD hS ⟨h1, hbW⟩ hDD
    have hbw' : Below w.heap.size w W := hbw.trans (hbW.mono (by omega))
    have c0 : W.cell? ⟨w.heap.size, 0, none⟩ = some (.int .i64 (x : Int)) := (hbW.cell (p := ⟨w.heap.size, 0, none⟩) (by show w.heap.size < _; omega)).trans (box_in hB0).1
    have c1 : W.cell? ⟨w.heap.size + 1, 0, none⟩ = some (.int .i64 0) := (hbW.cell (p := ⟨w.heap.size + 1, 0, none⟩) (by show w.heap.size + 1 < _; omega)).trans (box_in hB1).1
    have f1 : W.frozen? ⟨w.heap.size + 1, 0, none⟩ = false := (hbW.frozen (p := ⟨w.heap.size + 1, 0, none⟩) (by show w.heap.size + 1 < _; omega)).trans (box_in hB1).2
    have g0 := (hbw'.cell (p := ⟨Q.bb, 0, none⟩) lbb).trans hw0
    have hfin : findsW s t x = s.words.getD x 0 := finds_none hf HL.out (by rw [← hS]; exact h1)
    have HFIN : Hid (findsW s t x = r) := hfin.trans HR.out
    have HBW : Hid (Below w.heap.size w W) := hbw'
    have HDD : Hid (W.heap[D]? = some (.deferred (some []))) := hDD
    have hDw : w.heap.size ≤ D := by omega
    have HC1 : Hid (W.cell? ⟨w.heap.size + 1, 0, none⟩ = some (.int .i64 0)) := c1
    clear hB0 hB1 hB2 hW0 hS h1 hbW hbw hfin hf hDD hbw'
    gi_wp2
    refine wpIn_wide.2 ?_
    refine region_tail 6 (by kernel_rfl) (by kernel_rfl) ?_
    simp only [List.take_succ_cons, List.take_zero, List.drop_succ_cons, List.drop_zero]
    repeat still_step
    refine wpStill_nil ?_
    go_wp2_with fail
    refine Calls.mono (HPL.out _ HBW.out.drew) ?_
    rintro e w5 ⟨rfl, rfl⟩
    go_wp2_with fail
    gi_wp2
    have hK' : ((W.setCell ⟨w.heap.size + 1, 0, none⟩ (.int .i64 r)).drew).heap[D]? = some (.deferred (some [])) := (KeepsOthers.setCell W ⟨w.heap.size + 1, 0, none⟩ (.int .i64 r)).same D _ HDD.out rfl
    refine ⟨by simp, .inl ⟨_, _, rfl, run_takeDeferred hK', ?_⟩⟩
    have hc4 : ((W.setCell ⟨w.heap.size + 1, 0, none⟩ (.int .i64 r)).drew).cell? ⟨w.heap.size + 1, 0, none⟩ = some (.int .i64 r) := World.cell?_setCell_same' W ⟨w.heap.size + 1, 0, none⟩ (.int .i64 r) (by rw [HC1.out]; rfl)
    have hc5 := cell_kept hc4 (grownBy_putObj' _ D (.deferred none)) (fun r e => by cases e; exact ⟨_, hK', rfl⟩)
    refine ⟨.int .i64 r, ?_, by rw [HFIN.out], ((HBW.out.setCell (by show w.heap.size ≤ w.heap.size + 1; omega) _).drew).trans (belowK_b (w := w) (Nat.le_refl _) _ D _ _ hDw hK' rfl rfl)⟩
    simp [results, Tryz.f143, go_sem, hc5]
  case stop =>
    rintro D c pre W hD ⟨k, hk, hpre⟩ ⟨⟨rfl, p0, y, hp0, hy, hz, hcr⟩, hbW⟩ hDD
    have hfin : findsW s t x = y.2.what := finds_some hf HL.out hk (hp0.symm.trans hpre) hy hz
    clear hB0 hB1 hB2 hW0
    gi_wp2
    refine ⟨by simp, .inl ⟨_, _, rfl, run_takeDeferred hDD, ?_⟩⟩
    have hc5 := cell_kept hcr (grownBy_putObj' _ D (.deferred none)) (fun r e => by cases e; exact ⟨_, hDD, rfl⟩)
    refine ⟨.int .i64 y.2.what, ?_, by rw [hfin], hbW.trans (belowK_b (w := w) (Nat.le_refl _) W D _ _ (by omega) hDD rfl rfl)⟩
    simp [results, Tryz.f143, go_sem, hc5]
end

section
open Go.RowKit

/-- A method of the memory within. -/
theorem meth_in {w : World} {bb mb fid : Nat} {name : String} (h : (method 321 69 (.pointer (some ⟨bb, 0, none⟩)) name).run Tryz.prog w = ((loadVar 64 ⟨bb, 0, none⟩) >>= fun r => pure (fid, r)).run Tryz.prog w) (b0 : w.cell? ⟨bb, 0, none⟩ = some (.pointer (some ⟨mb, 0, none⟩))) :
    (method 321 69 (.pointer (some ⟨bb, 0, none⟩)) name).run Tryz.prog w = .ok (fid, .pointer (some ⟨mb, 0, none⟩)) w := by
  rw [h]
  simp [go_sem, b0]

theorem buf_law : MLaw bufK where
  notTr := by decide
  mode0 h := by cases h
  mode1 _ := by decide
  mHas w B Q sb mb v s hK h := by rw [buf_top hK]; exact meth_in (by kernel_rfl) (h.b0 (buf_bf hK))
  mAble a w := by kernel_rfl
  cAble xs w := by kernel_rfl
  mLoad a w := by kernel_rfl
  cLoad xs w := by kernel_rfl
  mStore a w := by kernel_rfl
  cStore xs w := by kernel_rfl
  mSwap w B Q sb mb v s hK h := by rw [buf_top hK]; exact meth_in (by kernel_rfl) (h.b0 (buf_bf hK))
  mLock w B Q sb mb v s hK h := by rw [buf_top hK]; exact meth_in (by kernel_rfl) (h.b0 (buf_bf hK))
  mUnlock a w := by kernel_rfl
  cUnlock xs w := by kernel_rfl
  mWaiting a w := by kernel_rfl
  cWaiting xs w := by kernel_rfl
  mFinish a w := by kernel_rfl
  cFinish xs w := by kernel_rfl
  mWords w B Q sb mb v s hK h := by rw [buf_top hK]; exact meth_in (by kernel_rfl) (h.b0 (buf_bf hK))
  able w B Q sb mb v s t op a b c hK hp ha := by
    rw [buf_top hK]; exact bable_any w B Q sb mb v s t op a b c hK hp ha
  load w B Q sb mb v s t x hK hp hx := by
    rw [buf_top hK]; exact bload_any w B Q sb mb v s t x hK hp hx
  store w B Q sb mb v s t x y hK hp _ hw := by
    rw [buf_top hK]; exact bstore_any w B Q sb mb v s t x y hK hp hw
  unlockY w B Q sb mb v s t x hK hp hx hw ho ha := by
    rw [buf_top hK]
    exact (bunlock_any w B Q sb mb v s t x hK hp hx false ha true (decide_eq_true ho) (fun _ _ => hw)).mono fun e w' h => h.1 ⟨rfl, rfl⟩
  unlockN w B Q sb mb v s t x hK hp hx h := by
    rw [buf_top hK]
    refine (bunlock_any w B Q sb mb v s t x hK hp hx _ rfl _ rfl (fun h1 h2 => ?_)).mono fun e w' g => g.2 (h.imp decide_eq_false id)
    rcases h with h | h
    · exact absurd (of_decide_eq_true h1) h
    · rw [h] at h2; cases h2
  finish w B Q sb mb v s X t k hK hp hlo hk _ := by
    rw [buf_top hK]; exact bfinish_any w B Q sb mb v s X t k hK hp hlo hk
  waiting w B Q sb mb v s t fid caps I hK kF hp hI h0 hC := by
    rw [buf_top hK]; exact bwaiting_any w B Q sb mb v s t fid caps I hK kF (hp 0 w h0) hI h0 hC
end

section
open Go.RowKit

/-- Nothing has turned but bytes, and where they are told. -/
def Txt (W W' : World) : Prop := ∀ (k : Nat) (c : Array Value) (t : TypeId), t ≠ 5 → t ≠ 121 → W.heap[k]? = some (.cells c t) → W'.heap[k]? = some (.cells c t)
/-- Who is told numbers: I xs W: xs were told so far. -/
structure Ear (fid : Nat) (caps : Array Value) (B : Nat) (Q : Cd) (sb mb : Nat) (v : Rp → Value) (s : Sx) (I : List Int → World → Prop) : Prop where
  fn : ∀ (xs : Array Value) (w : World), (callFunc fid xs).run Tryz.prog w = .ok (.enter fid xs) w
  st : ∀ xs W, I xs W → QSt W B Q sb mb v s
  more : ∀ xs W W', I xs W → Below W.heap.size W W' → I xs W'
  tell : ∀ xs W n, I64n n → xs.length ≤ 20000 → I xs W → Calls Tryz.prog fid (#[.int .i64 n] ++ caps) W fun e W' => e = .returned (.tuple #[]) ∧ I (xs ++ [n]) W' ∧ Txt W W'
/-- A list that lies at its block's start. -/
def RowI (w : World) (a : Option Addr) (l : List Int) : Prop := ∀ i, i < l.length → ∃ b, a = some ⟨b, 0, none⟩ ∧ w.cell? ⟨b, i, none⟩ = some (.int .i64 (l.getD i 0))
theorem own_rowI {w : World} {B : Nat} {t : TypeId} {a : Option Addr} {n c : Nat} {l : List Int} (h : w.ownsRow B t 1 (.slice a n c) n (intsV l)) (hn : n = l.length) : RowI w a l := fun i hi => by
  obtain ⟨g, cap, h1, h2, _, _⟩ := fam_block h (by omega)
  simp only [Value.slice.injEq] at h1
  exact ⟨g, h1.1, fam_cell h h2 (intsV_at hi)⟩
section
variable {w : World} {B : Nat} {Q : Cd} {sb mb : Nat} {v : Rp → Value} {s : Sx}
theorem QSt.rowW (h : QSt w B Q sb mb v s) : ∃ a c, v .words = .slice a s.words.length c ∧ RowI w a s.words := by
  obtain ⟨a, c, e⟩ := h.form .words
  have := h.fam.own .words
  rw [e] at this
  exact ⟨a, c, e, own_rowI this rfl⟩
theorem QSt.rowO (h : QSt w B Q sb mb v s) : ∃ a c, v .own = .slice a s.own.length c ∧ RowI w a s.own := by
  obtain ⟨a, c, e⟩ := h.form .own
  have := h.fam.own .own
  rw [e] at this
  exact ⟨a, c, e, own_rowI this rfl⟩
theorem QSt.rowP (h : QSt w B Q sb mb v s) : ∃ a c, v .prints = .slice a s.prints.length c ∧ RowI w a s.prints := by
  obtain ⟨a, c, e⟩ := h.form .prints
  have := h.fam.own .prints
  rw [e] at this
  exact ⟨a, c, e, own_rowI this rfl⟩
theorem QSt.rowR (h : QSt w B Q sb mb v s) (t : Nat) : ∃ a c, v (.regs t) = .slice a (thOf s t).regs.length c ∧ RowI w a (thOf s t).regs := by
  obtain ⟨a, c, e⟩ := h.form (.regs t)
  have := h.fam.own (.regs t)
  rw [e] at this
  exact ⟨a, c, e, own_rowI this rfl⟩
end

set_option maxRecDepth 100000 in
set_option maxHeartbeats 1600000 in
/-- All of a list is told. -/
theorem tellAll_any (w : World) (fid : Nat) (caps : Array Value) (B : Nat) (Q : Cd) (sb mb : Nat) (v : Rp → Value) (s : Sx) (I : List Int → World → Prop) (hE : Ear fid caps B Q sb mb v s I) (a : Option Addr) (c : Nat) (l xs : List Int) (hl : ∀ ys W, I ys W → RowI W a l) (hfit : ∀ x, x ∈ l → I64n x) (hlen : xs.length + l.length ≤ 20000) (h0 : I xs w) :
    Calls Tryz.prog 86 #[.slice a l.length c, .func (.func fid) #[] caps] w fun e w' => e = .returned (.tuple #[]) ∧ I (xs ++ l) w' := by
  obtain ⟨n, hn⟩ : ∃ n, l.length = n := ⟨_, rfl⟩
  have HN : Hid (l.length = n) := hn
  have hn2 : n ≤ 20000 := by omega
  have kF := hE.fn
  have HROW : Hid (∀ k W, k < n → I (xs ++ l.take k) W → ∃ b, a = some ⟨b, 0, none⟩ ∧ W.cell? ⟨b, k, none⟩ = some (.int .i64 (l.getD k 0)) ∧ Hid (Calls Tryz.prog fid (#[.int .i64 (l.getD k 0)] ++ caps) W fun e W' => e = .returned (.tuple #[]) ∧ I (xs ++ l.take (k + 1)) W')) := fun k W hk hI => by
    have hk' : k < l.length := by rw [hn]; exact hk
    obtain ⟨b, h1, h2⟩ := hl _ W hI k hk'
    have hm : l.getD k 0 ∈ l := by rw [List.getD_eq_getElem?_getD, List.getElem?_eq_getElem hk']; exact List.getElem_mem hk'
    refine ⟨b, h1, h2, ?_⟩
    have h3 := hE.tell (xs ++ l.take k) W (l.getD k 0) (hfit _ hm) (by rw [List.length_append, List.length_take]; omega) hI
    have e : l.take (k + 1) = l.take k ++ [l.getD k 0] := by rw [List.take_add_one, List.getElem?_eq_getElem hk', List.getD_eq_getElem?_getD, List.getElem?_eq_getElem hk']; rfl
    rw [List.append_assoc, ← e] at h3
    exact h3.mono fun e W' h => ⟨h.1, h.2.1⟩
  have HI0 : Hid (I (xs ++ l.take 0) w) := by show I _ _; rw [List.take_zero, List.append_nil]; exact h0
  have HEND : Hid (∀ W, I (xs ++ l.take n) W → I (xs ++ l) W) := fun W h => by rw [← hn, List.take_length] at h; exact h
  rw [hn]
  clear hn hlen hE hl hfit h0
  go_enter Tryz.func86, Tryz.ntmps86
  go_wp2
  go_loopw [8] (fun i wr => ∃ k : Nat, k ≤ n ∧ i = .int .i64 k ∧ Hid (I (xs ++ l.take k) wr)) (fun i _ => n - (intOf i).toNat)
  case atStart => exact ⟨0, Nat.zero_le _, rfl, HI0⟩
  case round =>
    obtain ⟨k, hk, rfl, HI⟩ := hrel
    by_cases hlt : k < n
    · obtain ⟨b, rfl, hc, HC⟩ := HROW.out k wr hlt HI.out
      obtain ⟨y, hy⟩ : ∃ y, l.getD k 0 = y := ⟨_, rfl⟩
      rw [hy] at hc HC
      clear hy HI
      go_wp2_with fail
      refine Calls.mono HC.out ?_
      rintro e w1 ⟨rfl, h1⟩
      have H1 := Hid.out (p := Hid _) h1
      clear HC h1
      go_wp2_with fail
      go_roundw
      case rel => exact ⟨k + 1, by omega, by go_num, H1⟩
      case measure => simp [intOf]; omega
    · obtain rfl : k = n := by omega
      go_wp2
      go_end0
      exact ⟨rfl, HEND.out _ HI.out⟩
end

section
open Go.RowKit

/-- 'append([]T{}, l...)' of a row. -/
theorem app_srcG {T e : TypeId} {z : Value} {size bytes : Nat} (ht : Tryz.prog.underlying T = some (.slice e)) (hinfo : (Tryz.prog.info? e).map (fun i => (i.zero, i.size, i.bytes)) = some (some z, size, bytes)) (hzs : z.cells.size = size) (hsz : 0 < size) (W : World) {B' : Nat} {g0 c0 n : Nat} {xs : List Value} (hown : W.ownsRow B' e size (.slice (some ⟨g0, 0, none⟩) n c0) n xs) (h1 : ∀ u ∈ xs, u.oneCell' = true) (hn : n ≤ 1000000) (hby : bytes ≤ 1000) :
    ∃ g cap w3, (AppS #[T, T] T #[.slice (some ⟨W.heap.size, 0, none⟩) 0 0, .slice (some ⟨g0, 0, none⟩) n c0]).run Tryz.prog (W.alloc (.cells #[] e)) = .ok (.slice (some ⟨g, 0, none⟩) n cap) w3 ∧ w3.ownsRow W.heap.size e size (.slice (some ⟨g, 0, none⟩) n cap) n xs ∧ Below W.heap.size W w3 := by
  obtain ⟨i, hi, hz0, hz1, hz2⟩ := info_is hinfo
  have hmade := World.ownsRow_made (base := W.heap.size) (e := e) (size := size) W #[] 0 (Nat.le_refl _) (by decide) (by simp)
  have hbl : Below W.heap.size W (W.alloc (.cells #[] e)) := (Below.refl _ _).alloc (Nat.le_refl _) _
  have hcell : ∀ j u, xs[j]? = some u → (W.alloc (.cells #[] e)).cell? ((⟨g0, 0, none⟩ : Addr).add j) = some u := fun j u hu => by
    have := fam_cell hown (g := g0) rfl hu
    have hadd : (⟨g0, 0, none⟩ : Addr).add j = ⟨g0, j, none⟩ := by unfold Addr.add; split <;> simp_all
    rw [hadd]
    exact cell_up this _
  rcases Nat.eq_zero_or_pos n with h0 | h0
  · subst h0
    have hxs : xs = [] := List.eq_nil_of_length_eq_zero (by have := hown.1; simpa using this)
    subst hxs
    refine ⟨W.heap.size, 0, W.alloc (.cells #[] e), ?_, hmade, hbl⟩
    have hs : Src Tryz.prog i.size T (.slice (some ⟨g0, 0, none⟩) 0 c0) 0 [] (W.alloc (.cells #[] e)) := Src.ofSlice _ ht ⟨g0, 0, none⟩ 0 c0 [] (by simp) (fun j u h => by simp at h) (fun u h => by cases h)
    exact run_append_room_src (P := Tryz.prog) (W.alloc (.cells #[] e)) T T T e i ht hi W.heap.size 0 0 0 (.slice (some ⟨g0, 0, none⟩) 0 c0) 0 [] hs (Nat.le_refl _) (fun j h => by simp at h) (fun j h => by simp at h)
  · obtain ⟨g, cap, w3, r1, r2, r3, r4, r5⟩ := run_append_lies (P := Tryz.prog) (W.alloc (.cells #[] e)) T T W.heap.size e i z size bytes ht hi hz0 hz1 hz2 hzs hsz _ 0 [] hmade ⟨g0, 0, none⟩ n c0 xs hown.1 hcell h1 h0 (by unfold maxLen; omega) (by
      have : (0 + n) * bytes ≤ 1000000 * 1000 := Nat.mul_le_mul (by omega) hby
      omega) (by simp) (W.heap.size + 1) (by simp)
    rw [Nat.zero_add] at r1 r2
    refine ⟨g, cap, w3, r1, r2, hbl.grown r3 (by simp) (fun k hk => ?_)⟩
    have : W.heap.size = k := by simpa [Value.ownBlock] using hk
    omega
theorem infoSThr : (Tryz.prog.info? 117).map (fun i => (i.zero, i.size, i.bytes)) = some (some (.agg #[nilV, .int .i64 0, nilV]), 3, 56) := by kernel_rfl
theorem infoSto : (Tryz.prog.info? 209).map (fun i => (i.zero, i.size, i.bytes)) = some (some (.agg #[.bool false, .int .i64 0, .int .i64 0]), 3, 24) := by kernel_rfl
theorem infoLSto : (Tryz.prog.info? 204).map (fun i => (i.zero, i.size, i.bytes)) = some (some nilV, 1, 24) := by kernel_rfl

attribute [local go_sem ↓] appS_eq in
set_option maxRecDepth 100000 in
set_option maxHeartbeats 1600000 in
theorem cloneT_any (w : World) (B : Nat) (v : Value) (n : Nat) (xs : List Value) (hown : w.ownsRow B 117 3 v n xs) (h1 : ∀ u ∈ xs, u.oneCell' = true) (hn : n ≤ 1000000) :
    Calls Tryz.prog 88 #[v] w fun e w' => ∃ u, e = .returned u ∧ w'.ownsRow w.heap.size 117 3 u n xs ∧ Below w.heap.size w w' := by
  rcases hown.2 with ⟨h0, h2⟩ | ⟨g, cap, cur, hv, _⟩
  · subst h0 h2
    have hxs : xs = [] := List.eq_nil_of_length_eq_zero (by have := hown.1; simpa using this)
    subst hxs
    have hne := fun W => Lib.run_eql_slice_nil (P := Tryz.prog) W 93 117 none 0 0 0 0 Tryz.underlying93
    clear hown h1
    go_enter Tryz.func88, Tryz.ntmps88
    go_wp2
    go_ret
    exact ⟨nilV, rfl, World.ownsRow_nil _ _ _ _, Below.refl _ _⟩
  · subst hv
    obtain ⟨g2, cap2, w3, r1, r2, r3⟩ := app_srcG Tryz.underlying93 infoSThr rfl (by omega) w hown h1 hn (by omega)
    have hne := fun W => Lib.run_eql_slice_nil (P := Tryz.prog) W 93 117 (some ⟨g, 0, none⟩) n cap 0 0 Tryz.underlying93
    have HR := Hid.out (p := Hid _) (And.intro r2 r3)
    clear hown h1 r2 r3
    go_enter Tryz.func88, Tryz.ntmps88
    go_wp2
    go_ret
    exact ⟨_, rfl, HR.out⟩

attribute [local go_sem ↓] appS_eq in
set_option maxRecDepth 100000 in
set_option maxHeartbeats 1600000 in
theorem cloneS_any (w : World) (B : Nat) (v : Value) (n : Nat) (xs : List Value) (hown : w.ownsRow B 209 3 v n xs) (h1 : ∀ u ∈ xs, u.oneCell' = true) (hn : n ≤ 1000000) :
    Calls Tryz.prog 155 #[v] w fun e w' => ∃ u, e = .returned u ∧ w'.ownsRow w.heap.size 209 3 u n xs ∧ Below w.heap.size w w' := by
  rcases hown.2 with ⟨h0, h2⟩ | ⟨g, cap, cur, hv, _⟩
  · subst h0 h2
    have hxs : xs = [] := List.eq_nil_of_length_eq_zero (by have := hown.1; simpa using this)
    subst hxs
    have hne := fun W => Lib.run_eql_slice_nil (P := Tryz.prog) W 204 209 none 0 0 0 0 Tryz.underlying204
    clear hown h1
    go_enter Tryz.func155, Tryz.ntmps155
    go_wp2
    go_ret
    exact ⟨nilV, rfl, World.ownsRow_nil _ _ _ _, Below.refl _ _⟩
  · subst hv
    obtain ⟨g2, cap2, w3, r1, r2, r3⟩ := app_srcG Tryz.underlying204 infoSto rfl (by omega) w hown h1 hn (by omega)
    have hne := fun W => Lib.run_eql_slice_nil (P := Tryz.prog) W 204 209 (some ⟨g, 0, none⟩) n cap 0 0 Tryz.underlying204
    have HR := Hid.out (p := Hid _) (And.intro r2 r3)
    clear hown h1 r2 r3
    go_enter Tryz.func155, Tryz.ntmps155
    go_wp2
    go_ret
    exact ⟨_, rfl, HR.out⟩

attribute [local go_sem ↓] appS_eq in
set_option maxRecDepth 100000 in
set_option maxHeartbeats 1600000 in
theorem cloneL_any (w : World) (B : Nat) (v : Value) (n : Nat) (xs : List Value) (hown : w.ownsRow B 204 1 v n xs) (h1 : ∀ u ∈ xs, u.oneCell' = true) (hn : n ≤ 1000000) :
    Calls Tryz.prog 154 #[v] w fun e w' => ∃ u, e = .returned u ∧ w'.ownsRow w.heap.size 204 1 u n xs ∧ Below w.heap.size w w' := by
  rcases hown.2 with ⟨h0, h2⟩ | ⟨g, cap, cur, hv, _⟩
  · subst h0 h2
    have hxs : xs = [] := List.eq_nil_of_length_eq_zero (by have := hown.1; simpa using this)
    subst hxs
    have hne := fun W => Lib.run_eql_slice_nil (P := Tryz.prog) W 108 204 none 0 0 0 0 Tryz.underlying108
    clear hown h1
    go_enter Tryz.func154, Tryz.ntmps154
    go_wp2
    go_ret
    exact ⟨nilV, rfl, World.ownsRow_nil _ _ _ _, Below.refl _ _⟩
  · subst hv
    obtain ⟨g2, cap2, w3, r1, r2, r3⟩ := app_srcG Tryz.underlying108 infoLSto rfl (by omega) w hown h1 hn (by omega)
    have hne := fun W => Lib.run_eql_slice_nil (P := Tryz.prog) W 108 204 (some ⟨g, 0, none⟩) n cap 0 0 Tryz.underlying108
    have HR := Hid.out (p := Hid _) (And.intro r2 r3)
    clear hown h1 r2 r3
    go_enter Tryz.func154, Tryz.ntmps154
    go_wp2
    go_ret
    exact ⟨_, rfl, HR.out⟩

attribute [local go_sem ↓] appS_eq in
set_option maxRecDepth 100000 in
set_option maxHeartbeats 1600000 in
theorem cloneI_any (w : World) (B : Nat) (v : Value) (n : Nat) (xs : List Value) (hown : w.ownsRow B 3 1 v n xs) (h1 : ∀ u ∈ xs, u.oneCell' = true) (hn : n ≤ 1000000) :
    Calls Tryz.prog 49 #[v] w fun e w' => ∃ u, e = .returned u ∧ w'.ownsRow w.heap.size 3 1 u n xs ∧ Below w.heap.size w w' := by
  rcases hown.2 with ⟨h0, h2⟩ | ⟨g, cap, cur, hv, _⟩
  · subst h0 h2
    have hxs : xs = [] := List.eq_nil_of_length_eq_zero (by have := hown.1; simpa using this)
    subst hxs
    have hne := fun W => Lib.run_eql_slice_nil (P := Tryz.prog) W 23 3 none 0 0 0 0 Tryz.underlying23
    clear hown h1
    go_enter Tryz.func49, Tryz.ntmps49
    go_wp2
    go_ret
    exact ⟨nilV, rfl, World.ownsRow_nil _ _ _ _, Below.refl _ _⟩
  · subst hv
    obtain ⟨g2, cap2, w3, r1, r2, r3⟩ := app_srcG Tryz.underlying23 infoI rfl (by omega) w hown h1 hn (by omega)
    have hne := fun W => Lib.run_eql_slice_nil (P := Tryz.prog) W 23 3 (some ⟨g, 0, none⟩) n cap 0 0 Tryz.underlying23
    have HR := Hid.out (p := Hid _) (And.intro r2 r3)
    clear hown h1 r2 r3
    go_enter Tryz.func49, Tryz.ntmps49
    go_wp2
    go_ret
    exact ⟨_, rfl, HR.out⟩
end

end Go.Proofs.YtelckcpjmekgcadGreatDoor
