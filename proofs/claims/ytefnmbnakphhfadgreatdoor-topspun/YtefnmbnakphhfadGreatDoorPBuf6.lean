/-
  The memory with buffers: one that waits is done.
-/
import Derived.Test.YtefnmbnakphhfadGreatDoorPBuf4
import Derived.Deep.RegionHeld
namespace Go.Proofs.YtefnmbnakphhfadGreatDoor
open Go.RowKit

set_option maxRecDepth 100000 in
set_option maxHeartbeats 1600000 in
theorem bfinish_any (w : World) (B : Nat) (Q : Cd) (sb mb : Nat) (v : Rp → Value) (s : Sx) (X : Nat → Nat → Nat → Int) (t k : Nat) (hK : Q.K = bufK) (hp : MPre w B Q sb mb v s t) (hlo : ∀ x, x ∈ (thOf s t).wait → x.lk = true → s.own.getD x.wh.toNat 0 = (t : Int)) (hk : k < (thOf s t).wait.length) :
    Calls Tryz.prog 137 #[.pointer (some ⟨Q.bb, 0, none⟩), .int .i64 t, .int .i64 k] w (ChgQ B Q sb mb v w (doX X 1 s (8 * t + k + 1)) (.tuple #[])) := by
  have hb := buf_bf hK
  have hs := hp.hs
  have hnt := hp.hn
  have htl := hp.ht
  have hw3 := hp.hw
  have hn4 := hp.h4
  rw [doX_wait (by omega)]
  obtain ⟨lb, lc, hlv, hlb, hllb⟩ := hs.bufsB hb (by omega)
  obtain ⟨qb, qc, hq, hqb, hlqb⟩ : ∃ qb qc, v (.buf t) = .slice (some ⟨qb, 0, none⟩) (thOf s t).wait.length qc ∧ (v (.buf t)).ownBlock = some qb ∧ qb < w.heap.size := by
    obtain ⟨g, c, h1, h2, _, h4⟩ := fam_block (hs.bufO hb t) (by omega)
    exact ⟨g, c, h1, h2, h4⟩
  have b0 := hs.b0 hb
  have b1 := hs.b1 hb
  rw [hlv] at b1
  have bq := hs.bufc hb hlb (t := t) (by omega)
  rw [hq] at bq
  obtain ⟨b', o', e', x0, x1, x2⟩ := hs.bwin hb hq k hk
  simp only [Option.some.injEq, Addr.mk.injEq, and_true] at e'
  obtain ⟨rfl, rfl⟩ := e'
  simp only [Nat.zero_add] at x0 x1 x2
  obtain ⟨y, hy⟩ : ∃ y, (thOf s t).wait.getD k default = y := ⟨_, rfl⟩
  have hym : y ∈ (thOf s t).wait := mem_getD hk hy
  have hok := hp.hok y hym
  rw [hy] at x0 x1 x2 ⊢
  obtain ⟨n, hn⟩ : ∃ m, Q.nt = m := ⟨_, rfl⟩
  rw [hn] at b1 hnt
  have htn : t < n := by omega
  have hn44 : n ≤ 4 := by omega
  obtain ⟨nw, hnw⟩ : ∃ m, (thOf s t).wait.length = m := ⟨_, rfl⟩
  rw [hnw] at bq hw3 hk
  have lbb : Q.bb < w.heap.size := lt_of_cell b0
  have d0 := cell_up b0
  have d1 := cell_up b1
  have dq := cell_up bq
  obtain ⟨lk', hlk'⟩ : ∃ x, y.lk = x := ⟨_, rfl⟩
  obtain ⟨wh', hwh'⟩ : ∃ x, y.wh = x := ⟨_, rfl⟩
  obtain ⟨wt', hwt'⟩ : ∃ x, y.what = x := ⟨_, rfl⟩
  rw [hlk'] at x0
  rw [hwh'] at x1
  rw [hwt'] at x2
  have hD0 : QSt (w.alloc (.cells #[.bool lk', .int .i64 wh', .int .i64 wt'] 212)) B Q sb mb v s := hs.alloc _
  have hsty : Q.K.sty = 212 := by rw [hK]; rfl
  have hne1 : Q.bb ≠ qb := hs.fam.ne (hs.bbox hb) hqb (by simp)
  have hne2 : lb ≠ qb := hs.fam.ne hlb hqb (by simp)
  have hne3 : Q.bb ≠ lb := hs.fam.ne (hs.bbox hb) hlb (by simp)
  have hne4 : w.heap.size ≠ lb := by omega
  have hne5 : w.heap.size ≠ qb := by omega
  have HDEL : Hid (∀ W, W.heap = (w.alloc (.cells #[.bool lk', .int .i64 wh', .int .i64 wt'] 212)).heap → W.os = w.os → W.tape = w.tape → W.output = w.output → Calls Tryz.prog 149 #[.slice (some ⟨qb, 0, none⟩) nw qc, .int .i64 (k : Int), .int .i64 ((k : Int) + 1)] W fun e w3 => e = .returned (.slice (some ⟨qb, 0, none⟩) (nw - 1) qc) ∧ (w3.cell? ⟨Q.bb, 1, none⟩ = some (.slice (some ⟨lb, 0, none⟩) n lc) ∧ w3.cell? ⟨lb, t, none⟩ = some (.slice (some ⟨qb, 0, none⟩) nw qc) ∧ w3.frozen? ⟨lb, t, none⟩ = false) ∧
      (w3.cell? ⟨Q.bb, 0, none⟩ = some (.pointer (some ⟨mb, 0, none⟩)) ∧ w3.cell? ⟨w.heap.size, 0, none⟩ = some (.bool lk') ∧ w3.cell? ⟨w.heap.size, 1, none⟩ = some (.int .i64 wh') ∧ w3.cell? ⟨w.heap.size, 2, none⟩ = some (.int .i64 wt')) ∧
      Hid (∃ v1, QSt (w3.setCell ⟨lb, t, none⟩ (.slice (some ⟨qb, 0, none⟩) (nw - 1) qc)) B Q sb mb v1 (setTh s t { thOf s t with wait := (thOf s t).wait.eraseIdx k }) ∧ Moved w (w3.setCell ⟨lb, t, none⟩ (.slice (some ⟨qb, 0, none⟩) (nw - 1) qc)) v v1 ∧ v1 .st = v .st ∧ v1 .thr = v .thr ∧ v1 .prints = v .prints ∧ ∀ u, v1 (.regs u) = v (.regs u))) := fun W e e1 e2 e3 => by
    have hDW := hD0.same e
    have hown := hDW.bufO hb t
    rw [hsty, hq] at hown
    have hdel := delete_any W B qb qc k (thOf s t).wait hown (by omega) (by omega)
    rw [hnw] at hdel
    refine hdel.mono fun en w3 ⟨h1, h2, h3⟩ => ⟨h1, ?_, ?_, ?_⟩
    · have hz : W.heap.size = w.heap.size + 1 := by rw [e]; simp
      have k1 := h3.block Q.bb (by omega) (fun e => hne1 (by simpa using e))
      have k2 := h3.block lb (by omega) (fun e => hne2 (by simpa using e))
      refine ⟨(World.cell?_of_block k1).trans ?_, (World.cell?_of_block k2).trans ?_, (World.frozen?_of_block k2).trans (hDW.fam.frozen hlb t)⟩
      · exact (World.cell?_of_block (by rw [e])).trans (d1 _)
      · exact (World.cell?_of_block (by rw [e])).trans (dq _)
    · have hz : W.heap.size = w.heap.size + 1 := by rw [e]; simp
      have k1 := h3.block Q.bb (by omega) (fun e => hne1 (by simpa using e))
      have k2 := h3.block w.heap.size (by omega) (fun e => hne5 (by simpa using e))
      have hO : ∀ i u, (#[Value.bool lk', .int .i64 wh', .int .i64 wt'] : Array Value)[i]? = some u → w3.cell? ⟨w.heap.size, i, none⟩ = some u := fun i u h => (World.cell?_of_block k2).trans ((World.cell?_of_block (w := w.alloc (.cells #[.bool lk', .int .i64 wh', .int .i64 wt'] 212)) (by rw [e])).trans (by rw [World.cell?_alloc_new, h]))
      exact ⟨(World.cell?_of_block k1).trans ((World.cell?_of_block (by rw [e])).trans (d0 _)), hO 0 _ rfl, hO 1 _ rfl, hO 2 _ rfl⟩
    · have hel : ((thOf s t).wait.eraseIdx k).length = nw - 1 := by rw [List.length_eraseIdx, if_pos (by omega), hnw]
      rw [← hel, ← hsty] at h2
      have hMv : Moved w W v v := Moved.same ((Moved.refl w v).alloc (.cells #[.bool lk', .int .i64 wh', .int .i64 wt'] 212)) e e1 e2 e3
      have hN := hDW.newBuf hb hlb (by omega) (by omega) (H := W.heap.size) h2 (by rw [hqb]; exact h3) (Or.inl hqb) (Nat.le_refl _)
      have hMM := (hMv.grow (r := .buf t) (g := qb) (m := ((thOf s t).wait.eraseIdx k).length) (c := qc) (H := W.heap.size) (by rw [hqb]; exact h3) (Or.inl hqb) (Nat.le_refl _)).put (r := .bufs) (g := lb) (by rw [upd_ne _ _ (by simp)]; exact hlb) t (.slice (some ⟨qb, 0, none⟩) (nw - 1) qc)
      rw [hel] at hN hMM
      exact ⟨_, hN, hMM, upd_ne _ _ (by simp), upd_ne _ _ (by simp), upd_ne _ _ (by simp), fun u => upd_ne _ _ (by simp)⟩
  have HOW : Hid (lk' = true → 0 ≤ wh' ∧ wh' < (s.own.length : Int) ∧ s.own.getD wh'.toNat 0 = (t : Int)) := fun h => by
    have h1 := hok.1
    rw [hlk', hwh', if_pos h] at h1
    refine ⟨h1.1, h1.2, ?_⟩
    have := hlo y hym (by rw [hlk']; exact h)
    rwa [hwh'] at this
  have HWO : Hid (lk' = false → 0 ≤ wh' ∧ wh' < (s.words.length : Int)) := fun h => by
    have h1 := hok.1
    rw [hlk', hwh', if_neg (by rw [h]; decide)] at h1
    exact h1
  have HBD : Hid (s.words.length ≤ 64 ∧ s.own.length ≤ 4) := ⟨hp.hm, hp.hl⟩
  have HY : Hid (y = ⟨lk', wh', wt'⟩) := by cases y; simp only at hlk' hwh' hwt'; subst hlk' hwh' hwt'; rfl
  clear hp hs hlv hq hn hnw hnt htl hn4 hD0 hsty hlo hok hym hlk' hwh' hwt' hy
  go_enter Tryz.func137, Tryz.ntmps137
  go_wp2_with fail
  have e1 := d1 (.cells #[.bool lk', .int .i64 wh', .int .i64 wt'] 212)
  have eq := dq (.cells #[.bool lk', .int .i64 wh', .int .i64 wt'] 212)
  have hwk := IntWalk.i64_in ((k : Int) + 1) (by omega)
  have hfar : (⟨Q.bb, 1, none⟩ : Addr).block ≠ (⟨lb, t, none⟩ : Addr).block := hne3
  refine wp_region_held_drew (S := (fun w' : World => w'.cell? ⟨Q.bb, 1, none⟩ = some (.slice (some ⟨lb, 0, none⟩) n lc))) (by kernel_rfl) (by first | assumption | (refine cell_drew ?_; assumption) | (refine cell_far ?_ ?_ <;> assumption)) (fun hHeld => ?_)
  try simp only [Act.put, List.setIfInBounds_toArray, List.set_cons_zero, List.set_cons_succ, List.getElem_toArray, List.getElem_cons_succ, List.getElem_cons_zero]
  refine wpAnyH_take (i := 0) (v := .pointer (some ⟨Q.bb, 0, none⟩)) rfl (by kernel_rfl) (by kernel_rfl) (by kernel_rfl) (fun _ _ _ h => h) (Or.inl ⟨by rfl, by intro w hSw; first | (go_simp; done) | (go_simp; with_reducible rfl)⟩) (by assumption) ?_
  try simp only [Act.put, List.setIfInBounds_toArray, List.set_cons_zero, List.set_cons_succ, List.getElem_toArray, List.getElem_cons_zero]
  refine wpAnyH_take (i := 1) (v := .pointer (some ⟨Q.bb, 0, none⟩)) rfl (by kernel_rfl) (by kernel_rfl) (by kernel_rfl) (fun _ _ _ h => h) (Or.inl ⟨by rfl, by intro w hSw; first | (go_simp; done) | (go_simp; with_reducible rfl)⟩) (by assumption) ?_
  try simp only [Act.put, List.setIfInBounds_toArray, List.set_cons_zero, List.set_cons_succ, List.getElem_toArray, List.getElem_cons_succ, List.getElem_cons_zero]
  refine wpAnyH_take (i := 2) (v := .pointer (some ⟨Q.bb, 1, none⟩)) rfl (by kernel_rfl) (by kernel_rfl) (by kernel_rfl) (fun _ _ _ h => h) (Or.inl ⟨by rfl, by intro w hSw; first | (go_simp; done) | (go_simp; with_reducible rfl)⟩) (by assumption) ?_
  try simp only [Act.put, List.setIfInBounds_toArray, List.set_cons_zero, List.set_cons_succ, List.getElem_toArray, List.getElem_cons_succ, List.getElem_cons_zero]
  refine wpAnyH_take (i := 3) (v := .slice (some ⟨lb, 0, none⟩) n lc) rfl (by kernel_rfl) (by kernel_rfl) (by kernel_rfl) (fun _ _ _ h => h) (Or.inl ⟨by rfl, by intro w hSw; first | (go_simp; done) | (go_simp; with_reducible rfl)⟩) (by assumption) ?_
  try simp only [Act.put, List.setIfInBounds_toArray, List.set_cons_zero, List.set_cons_succ, List.getElem_toArray, List.getElem_cons_succ, List.getElem_cons_zero]
  refine wpAnyH_take (i := 4) (v := .int .i64 (t : Int)) rfl (by kernel_rfl) (by kernel_rfl) (by kernel_rfl) (fun _ _ _ h => h) (Or.inl ⟨by rfl, by intro w hSw; first | (go_simp; done) | (go_simp; with_reducible rfl)⟩) (by assumption) ?_
  try simp only [Act.put, List.setIfInBounds_toArray, List.set_cons_zero, List.set_cons_succ, List.getElem_toArray, List.getElem_cons_succ, List.getElem_cons_zero]
  refine wpAnyH_take (i := 5) (v := .pointer (some ⟨Q.bb, 0, none⟩)) rfl (by kernel_rfl) (by kernel_rfl) (by kernel_rfl) (fun _ _ _ h => h) (Or.inl ⟨by rfl, by intro w hSw; first | (go_simp; done) | (go_simp; with_reducible rfl)⟩) (by assumption) ?_
  try simp only [Act.put, List.setIfInBounds_toArray, List.set_cons_zero, List.set_cons_succ, List.getElem_toArray, List.getElem_cons_succ, List.getElem_cons_zero]
  refine wpAnyH_take (i := 6) (v := .pointer (some ⟨Q.bb, 0, none⟩)) rfl (by kernel_rfl) (by kernel_rfl) (by kernel_rfl) (fun _ _ _ h => h) (Or.inl ⟨by rfl, by intro w hSw; first | (go_simp; done) | (go_simp; with_reducible rfl)⟩) (by assumption) ?_
  try simp only [Act.put, List.setIfInBounds_toArray, List.set_cons_zero, List.set_cons_succ, List.getElem_toArray, List.getElem_cons_succ, List.getElem_cons_zero]
  refine wpAnyH_take (i := 7) (v := .pointer (some ⟨Q.bb, 1, none⟩)) rfl (by kernel_rfl) (by kernel_rfl) (by kernel_rfl) (fun _ _ _ h => h) (Or.inl ⟨by rfl, by intro w hSw; first | (go_simp; done) | (go_simp; with_reducible rfl)⟩) (by assumption) ?_
  try simp only [Act.put, List.setIfInBounds_toArray, List.set_cons_zero, List.set_cons_succ, List.getElem_toArray, List.getElem_cons_succ, List.getElem_cons_zero]
  refine wpAnyH_take (i := 8) (v := .slice (some ⟨lb, 0, none⟩) n lc) rfl (by kernel_rfl) (by kernel_rfl) (by kernel_rfl) (fun _ _ _ h => h) (Or.inl ⟨by rfl, by intro w hSw; first | (go_simp; done) | (go_simp; with_reducible rfl)⟩) (by assumption) ?_
  try simp only [Act.put, List.setIfInBounds_toArray, List.set_cons_zero, List.set_cons_succ, List.getElem_toArray, List.getElem_cons_succ, List.getElem_cons_zero]
  refine wpAnyH_take (i := 9) (v := .int .i64 (t : Int)) rfl (by kernel_rfl) (by kernel_rfl) (by kernel_rfl) (fun _ _ _ h => h) (Or.inl ⟨by rfl, by intro w hSw; first | (go_simp; done) | (go_simp; with_reducible rfl)⟩) (by assumption) ?_
  try simp only [Act.put, List.setIfInBounds_toArray, List.set_cons_zero, List.set_cons_succ, List.getElem_toArray, List.getElem_cons_succ, List.getElem_cons_zero]
  refine wpAnyH_take (i := 10) (v := .pointer (some ⟨lb, t, none⟩)) rfl (by kernel_rfl) (by kernel_rfl) (by kernel_rfl) (fun _ _ _ h => h) (Or.inl ⟨by rfl, by intro w hSw; first | (go_simp; done) | (go_simp; with_reducible rfl)⟩) (by assumption) ?_
  try simp only [Act.put, List.setIfInBounds_toArray, List.set_cons_zero, List.set_cons_succ, List.getElem_toArray, List.getElem_cons_succ, List.getElem_cons_zero]
  refine wpAnyH_take (i := 12) (v := .int .i64 (k : Int)) rfl (by kernel_rfl) (by kernel_rfl) (by kernel_rfl) (fun _ _ _ h => h) (Or.inl ⟨by rfl, by intro w hSw; first | (go_simp; done) | (go_simp; with_reducible rfl)⟩) (by assumption) ?_
  try simp only [Act.put, List.setIfInBounds_toArray, List.set_cons_zero, List.set_cons_succ, List.getElem_toArray, List.getElem_cons_succ, List.getElem_cons_zero]
  refine wpAnyH_take (i := 13) (v := .int .i64 (k : Int)) rfl (by kernel_rfl) (by kernel_rfl) (by kernel_rfl) (fun _ _ _ h => h) (Or.inl ⟨by rfl, by intro w hSw; first | (go_simp; done) | (go_simp; with_reducible rfl)⟩) (by assumption) ?_
  try simp only [Act.put, List.setIfInBounds_toArray, List.set_cons_zero, List.set_cons_succ, List.getElem_toArray, List.getElem_cons_succ, List.getElem_cons_zero]
  refine wpAnyH_take (i := 14) (v := .int .i64 ((k : Int) + 1)) rfl (by kernel_rfl) (by kernel_rfl) (by kernel_rfl) (fun _ _ _ h => h) (Or.inl ⟨by rfl, by intro w hSw; first | (go_simp; done) | (go_simp; exact hwk)⟩) (by assumption) ?_
  try simp only [Act.put, List.setIfInBounds_toArray, List.set_cons_zero, List.set_cons_succ, List.getElem_toArray, List.getElem_cons_succ, List.getElem_cons_zero]
  refine wpAnyH_ready (rs := [11]) (by kernel_rfl) (by simp) (AllReadyH.cons rfl (fun K hK => ?_) AllReadyH.nil)
  go_simp
  refine hK.out _ _ (by first | assumption | (refine cell_drew ?_; assumption) | (refine cell_far ?_ ?_ <;> assumption)) (fun hHeld => ?_)
  clear hK K
  try simp only [Act.put, List.setIfInBounds_toArray, List.set_cons_zero, List.set_cons_succ, List.getElem_toArray, List.getElem_cons_succ, List.getElem_cons_zero]
  refine wpAnyH_ready (rs := [15]) (by kernel_rfl) (by simp) (AllReadyH.cons rfl (fun K hK => ?_) AllReadyH.nil)
  go_simp
  refine Calls.mono (HDEL.out _ rfl rfl rfl rfl) ?_
  rintro e w3 ⟨rfl, ⟨g1, g2, g3⟩, ⟨f0, f1, f2, f3⟩, HV⟩
  go_wp2_with fail
  refine hK.out _ _ (by first | assumption | (refine cell_drew ?_; assumption) | (refine cell_far ?_ ?_ <;> assumption)) (fun hHeld => ?_)
  clear hK K
  try simp only [Act.put, List.setIfInBounds_toArray, List.set_cons_zero, List.set_cons_succ, List.getElem_toArray, List.getElem_cons_succ, List.getElem_cons_zero]
  refine wpAnyH_ready (rs := [16]) (by kernel_rfl) (by simp) (AllReadyH.cons rfl (fun K hK => ?_) AllReadyH.nil)
  go_simp
  refine hK.out _ _ (by first | assumption | (refine cell_drew ?_; assumption) | (refine cell_far ?_ ?_ <;> assumption)) (fun hHeld => ?_)
  clear hK K
  try simp only [Act.put, List.setIfInBounds_toArray, List.set_cons_zero, List.set_cons_succ, List.getElem_toArray, List.getElem_cons_succ, List.getElem_cons_zero]
  refine wpAnyH_ready (rs := [17]) (by kernel_rfl) (by simp) (AllReadyH.cons rfl (fun K hK => ?_) AllReadyH.nil)
  go_simp
  refine hK.out _ _ (by first | assumption | (refine cell_drew ?_; assumption) | (refine cell_far ?_ ?_ <;> assumption)) (fun hHeld => ?_)
  clear hK K
  try simp only [Act.put, List.setIfInBounds_toArray, List.set_cons_zero, List.set_cons_succ, List.getElem_toArray, List.getElem_cons_succ, List.getElem_cons_zero]
  refine wpAnyH_done (by kernel_rfl) ?_ _
  have z0 := cell_far (b := ⟨lb, t, none⟩) (u := .slice (some ⟨qb, 0, none⟩) (nw - 1) qc) f0 hne3
  have z1 := cell_far (b := ⟨lb, t, none⟩) (u := .slice (some ⟨qb, 0, none⟩) (nw - 1) qc) f1 hne4
  have z2 := cell_far (b := ⟨lb, t, none⟩) (u := .slice (some ⟨qb, 0, none⟩) (nw - 1) qc) f2 hne4
  have z3 := cell_far (b := ⟨lb, t, none⟩) (u := .slice (some ⟨qb, 0, none⟩) (nw - 1) qc) f3 hne4
  obtain ⟨W4, hW4⟩ : ∃ W, W = w3.setCell ⟨lb, t, none⟩ (.slice (some ⟨qb, 0, none⟩) (nw - 1) qc) := ⟨_, rfl⟩
  rw [← hW4] at z0 z1 z2 z3 HV ⊢
  clear hW4 f0 f1 f2 f3 g1 g2 g3 HDEL hHeld hwk hfar e1 eq d0 d1 dq x0 x1 x2 b0 b1 bq
  obtain ⟨v1, hQ1, hM1, m1, m2, m3, m4⟩ := HV.out
  have HQ1 := Hid.out (p := Hid _) (And.intro hQ1 (And.intro hM1 (And.intro m1 (And.intro m2 (And.intro m3 m4)))))
  clear HV hQ1 hM1 m1 m2 m3 m4
  cases lk' with
  | true =>
    obtain ⟨h1, h2, h3⟩ := HOW.out rfl
    obtain ⟨x, rfl, hx⟩ := toN ⟨h1, h2⟩
    simp only [Int.toNat_natCast] at h3
    have HC : Hid (∀ W, W.heap = W4.heap → W.os = W4.os → W.tape = W4.tape → W.output = W4.output → Calls Tryz.prog 150 #[.pointer (some ⟨mb, 0, none⟩), .int .i64 t, .int .i64 (x : Int)] W fun e w' => (∃ b, e = .returned (.bool b)) ∧ ChgQ B Q sb mb v w (setTh (doneW s y) t { thOf s t with wait := (thOf s t).wait.eraseIdx k }) (.tuple #[]) (.returned (.tuple #[])) w') := fun W e e1 e2 e3 => by
      obtain ⟨q1, q2, q3, q4, q5, q6⟩ := HQ1.out
      refine (punlock_yes W B Q sb mb v1 _ t x (q1.same e) HBD.out.2 hx h3).mono fun en w' ⟨g1, g2, g3⟩ => ⟨⟨_, g1⟩, rfl, v1, ?_, (Moved.same q2 e e1 e2 e3).trans g3, q3, q4, q5, q6⟩
      rw [HY.out]
      exact g2
    clear HOW HWO h1 h2 h3 hx
    go_wp2_with fail
    refine region_tail 8 (by kernel_rfl) (by kernel_rfl) ?_
    simp only [List.take_succ_cons, List.take_zero, List.drop_succ_cons, List.drop_zero]
    repeat still_step
    refine wpStill_nil ?_
    go_wp2_with fail
    refine Calls.mono (HC.out _ rfl rfl rfl rfl) ?_
    rintro e w5 ⟨⟨b, rfl⟩, h5⟩
    go_wp2_with fail
    go_end0
    exact h5
  | false =>
    obtain ⟨x, rfl, hx⟩ := toN (HWO.out rfl)
    have HC : Hid (∀ W, W.heap = W4.heap → W.os = W4.os → W.tape = W4.tape → W.output = W4.output → Calls Tryz.prog 151 #[.pointer (some ⟨mb, 0, none⟩), .int .i64 t, .int .i64 (x : Int), .int .i64 wt'] W (ChgQ B Q sb mb v w (setTh (doneW s y) t { thOf s t with wait := (thOf s t).wait.eraseIdx k }) (.tuple #[]))) := fun W e e1 e2 e3 => by
      obtain ⟨q1, q2, q3, q4, q5, q6⟩ := HQ1.out
      refine (pstore_any W B Q sb mb v1 _ t wt' x (q1.same e) HBD.out.1 hx).mono fun en w' ⟨g1, g2, g3⟩ => ⟨g1, v1, ?_, (Moved.same q2 e e1 e2 e3).trans g3, q3, q4, q5, q6⟩
      rw [HY.out]
      exact g2
    clear HOW HWO hx
    go_wp2_with fail
    refine region_tail 10 (by kernel_rfl) (by kernel_rfl) ?_
    simp only [List.take_succ_cons, List.take_zero, List.drop_succ_cons, List.drop_zero]
    repeat still_step
    refine wpStill_nil ?_
    go_wp2_with fail
    refine Calls.mono (HC.out _ rfl rfl rfl rfl) ?_
    rintro e w5 ⟨rfl, h5⟩
    go_wp2_with fail
    go_end0
    exact ⟨rfl, h5⟩

end Go.Proofs.YtefnmbnakphhfadGreatDoor
