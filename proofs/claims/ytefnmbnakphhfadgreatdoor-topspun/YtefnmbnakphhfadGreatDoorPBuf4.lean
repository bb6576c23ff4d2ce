/-
  The memory with buffers: a lock waits to become free; one that waits is done.
  The memory with buffers: one that waits is taken out.
  The library's iterator that goes through what waits from behind; what a thread finds in a word.
  The memory with buffers: what a thread finds in a word.
-/
import Derived.Test.YtefnmbnakphhfadGreatDoorPBuf
import Derived.Deep.RegionHeld3
import Derived.Lib.SliceRun
import Derived.RangeFuncFrom
import Derived.RangeFuncNested
import Derived.RangeFuncBound
import Derived.RangeFuncCalls
import Derived.RangeFuncLeaves
import Derived.RangeFuncBox
import Derived.Shelf.Abstract
import Derived.Shelf.RegionOpen
import Derived.OwnWalkIn
import Derived.TacticsInMore
import Derived.LoopNIn
import Derived.LoopIn
namespace Go.Proofs.YtefnmbnakphhfadGreatDoor
section
open Go.RowKit

theorem QSt.bwin {w : World} {B : Nat} {Q : Cd} {sb mb : Nat} {v : Rp → Value} {s : Sx} (h : QSt w B Q sb mb v s) (hb : Q.K.bf = true) {t : Nat} {a : Option Addr} {c : Nat} (hv : v (.buf t) = .slice a (thOf s t).wait.length c) : WIn w a (thOf s t).wait := fun i hi => by
  have hown := h.bufO hb t
  obtain ⟨g, cap, h1, h2, _, _⟩ := fam_block hown (by omega)
  rw [hv] at h1
  simp only [Value.slice.injEq] at h1
  have hc : ∀ j, j < 3 → w.cell? ⟨g, i * 3 + j, none⟩ = some (waitC ((thOf s t).wait.getD i default) j) := fun j hj => fam_cell hown h2 (by unfold waitV; exact rows3_get hi hj)
  exact ⟨g, 0, h1.1, by simpa [waitC] using hc 0 (by omega), by simpa [waitC] using hc 1 (by omega), by simpa [waitC] using hc 2 (by omega)⟩
/-- Whether a lock waits to become free: all that does says nothing besides. -/
theorem frees_any {l : List Wt} (hz : ∀ x, x ∈ l → x.lk = true → x.what = 0) (a : Int) : decide ((⟨true, a, 0⟩ : Wt) ∈ l) = l.any fun z => z.lk && decide (z.wh = a) := by
  rw [Bool.eq_iff_iff]
  simp only [decide_eq_true_eq, List.any_eq_true, Bool.and_eq_true]
  constructor
  · intro h
    exact ⟨_, h, rfl, rfl⟩
  · rintro ⟨x, hx, h1, h2⟩
    have h3 := hz x hx h1
    obtain ⟨lk, wh, what⟩ := x
    simp only at h1 h2 h3
    subst h1 h2 h3
    exact hx

set_option maxRecDepth 100000 in
set_option maxHeartbeats 1600000 in
theorem bunlock_any (w : World) (B : Nat) (Q : Cd) (sb mb : Nat) (v : Rp → Value) (s : Sx) (t x : Nat) (hK : Q.K = bufK) (hp : MPre w B Q sb mb v s t) (hx : x < s.own.length) (b : Bool) (hb2 : ((thOf s t).wait.any fun z => z.lk && decide (z.wh = (x : Int))) = b) (hown : Bool) (ho : decide (s.own.getD x 0 = (t : Int)) = hown) (hroom : hown = true → b = false → (thOf s t).wait.length < 3) :
    Calls Tryz.prog 144 #[.pointer (some ⟨Q.bb, 0, none⟩), .int .i64 t, .int .i64 x] w fun e w' => (hown = true ∧ b = false → ChgQ B Q sb mb v w (storeW 1 s t ⟨true, x, 0⟩) (.bool true) e w') ∧ (hown = false ∨ b = true → e = .returned (.bool false) ∧ Below w.heap.size w w') := by
  have hb := buf_bf hK
  have hs := hp.hs
  have hnt := hp.hn
  have htl := hp.ht
  have hw3 := hp.hw
  have hn4 := hp.h4
  obtain ⟨lb, lc, hlv, hlb, hllb⟩ := hs.bufsB hb (by omega)
  obtain ⟨qa, qc, hq⟩ := hs.bufV hb t
  have b0 := hs.b0 hb
  have b1 := hs.b1 hb
  rw [hlv] at b1
  have bq := hs.bufc hb hlb (t := t) (by omega)
  rw [hq] at bq
  have HHO : Hid (∀ W, Below w.heap.size w W → Calls Tryz.prog 157 #[.pointer (some ⟨mb, 0, none⟩), .int .i64 t, .int .i64 x] W fun e w' => e = .returned (.bool hown) ∧ W = w') := fun W h => by
    have := holds_any W B Q sb mb v s t x (hs.below h) hp.hl hx
    rwa [ho] at this
  have HCO : Hid (∀ W, Below w.heap.size w W → Calls Tryz.prog 158 #[.slice qa (thOf s t).wait.length qc, .agg #[.bool true, .int .i64 (x : Int), .int .i64 0]] W fun e w' => e = .returned (.bool b) ∧ Below W.heap.size W w') := fun W h => by
    have := scontains_any W qa qc (thOf s t).wait ⟨true, x, 0⟩ ((hs.bwin hb hq).below h) (by omega)
    rwa [frees_any (fun y hy => (hp.hok y hy).2), hb2] at this
  have HPU : Hid (hown = true → b = false → ∀ W, Below w.heap.size w W → Calls Tryz.prog 154 #[.pointer (some ⟨Q.bb, 0, none⟩), .int .i64 t, .agg #[.bool true, .int .i64 (x : Int), .int .i64 0]] W (ChgQ B Q sb mb v w (storeW 1 s t ⟨true, x, 0⟩) (.tuple #[]))) := fun h1 h2 W h => (put_any W B Q sb mb v s t ⟨true, x, 0⟩ hK (hp.below h) (hroom h1 h2)).mono fun e w' ⟨g1, v', g2, g3, g4⟩ => ⟨g1, v', g2, (Moved.of_below h).trans g3, g4⟩
  have hBel : ∀ o, Below w.heap.size w (w.alloc o) := fun o => (Below.refl _ _).alloc (Nat.le_refl _) _
  obtain ⟨n, hn⟩ : ∃ m, Q.nt = m := ⟨_, rfl⟩
  rw [hn] at b1 hnt
  have htn : t < n := by omega
  have hn44 : n ≤ 4 := by omega
  obtain ⟨k, hk⟩ : ∃ m, (thOf s t).wait.length = m := ⟨_, rfl⟩
  rw [hk] at bq HCO hw3
  have d0 := cell_up b0
  have d1 := cell_up b1
  have dq := cell_up bq
  have lbb : Q.bb < w.heap.size := lt_of_cell b0
  have HBEL := Hid.out (p := Hid _) hBel
  have hO : ∀ i u, (#[Value.bool true, .int .i64 (x : Int), .int .i64 0] : Array Value)[i]? = some u → (w.alloc (.cells #[.bool true, .int .i64 (x : Int), .int .i64 0] 212)).cell? ⟨w.heap.size, i, none⟩ = some u := fun i u h => by rw [World.cell?_alloc_new, h]
  have o0 : (w.alloc (.cells #[.bool true, .int .i64 (x : Int), .int .i64 0] 212)).cell? ⟨w.heap.size, 0, none⟩ = some (.bool true) := hO 0 _ rfl
  have o1 : (w.alloc (.cells #[.bool true, .int .i64 (x : Int), .int .i64 0] 212)).cell? ⟨w.heap.size, 1, none⟩ = some (.int .i64 (x : Int)) := hO 1 _ rfl
  have o2 : (w.alloc (.cells #[.bool true, .int .i64 (x : Int), .int .i64 0] 212)).cell? ⟨w.heap.size, 2, none⟩ = some (.int .i64 0) := hO 2 _ rfl
  have e0 := d0 (.cells #[.bool true, .int .i64 (x : Int), .int .i64 0] 212)
  have e1 := d1 (.cells #[.bool true, .int .i64 (x : Int), .int .i64 0] 212)
  have eq := dq (.cells #[.bool true, .int .i64 (x : Int), .int .i64 0] 212)
  clear hp hs hlv hlb hq hn hk hnt htl hn4 hb2 ho hroom hBel hO
  go_enter Tryz.func144, Tryz.ntmps144
  go_wp2_with fail
  cases hown with
  | false =>
    go_quiet ((go_at_call 157; refine Calls.mono (HHO.out _ (below_drewN (HBEL.out _))) ?_; rintro e w4 ⟨rfl, rfl⟩; exact ⟨rfl, _, rfl⟩))
    go_wp2
    go_ret
    first | exact ⟨rfl, below_drewN (HBEL.out _)⟩ | exact ⟨fun h => absurd h.1 (by decide), fun _ => ⟨rfl, below_drewN (HBEL.out _)⟩⟩
  | true =>
    go_region_held3 (fun w' => w'.cell? ⟨Q.bb, 0, none⟩ = some (.pointer (some ⟨mb, 0, none⟩)) ∧ w'.cell? ⟨Q.bb, 1, none⟩ = some (.slice (some ⟨lb, 0, none⟩) n lc) ∧ w'.cell? ⟨lb, t, none⟩ = some (.slice qa k qc) ∧ w'.cell? ⟨w.heap.size, 0, none⟩ = some (.bool true) ∧ w'.cell? ⟨w.heap.size, 1, none⟩ = some (.int .i64 (x : Int)) ∧ w'.cell? ⟨w.heap.size, 2, none⟩ = some (.int .i64 0)) (refine ⟨?_, ?_, ?_, ?_, ?_, ?_⟩ <;> (first | assumption | (refine cell_drew ?_; assumption))) (first | (go_at_call 157; refine Calls.mono (HHO.out _ (by repeat (first | exact HBEL.out _ | refine Below.drew ?_))) ?_; rintro e w4 ⟨rfl, rfl⟩) | (go_at_call 158; refine Calls.mono (HCO.out _ (by repeat (first | exact HBEL.out _ | refine Below.drew ?_))) ?_; rintro e w5 ⟨rfl, hb5⟩; have z0 := (hb5.cell (p := ⟨Q.bb, 0, none⟩) (lt_of_cell e0)).trans e0; have z1 := (hb5.cell (p := ⟨Q.bb, 1, none⟩) (lt_of_cell e1)).trans e1; have zq := (hb5.cell (p := ⟨lb, t, none⟩) (lt_of_cell eq)).trans eq; have y0 := (hb5.cell (p := ⟨w.heap.size, 0, none⟩) (lt_of_cell o0)).trans o0; have y1 := (hb5.cell (p := ⟨w.heap.size, 1, none⟩) (lt_of_cell o1)).trans o1; have y2 := (hb5.cell (p := ⟨w.heap.size, 2, none⟩) (lt_of_cell o2)).trans o2; have HB5 : Hid (Below w.heap.size w w5) := (HBEL.out (.cells #[.bool true, .int .i64 (x : Int), .int .i64 0] 212)).drew.trans (hb5.mono (by show _ ≤ (w.alloc (.cells #[.bool true, .int .i64 (x : Int), .int .i64 0] 212)).heap.size; simp)); clear hb5))
    all_goals cases b with
    | true =>
      go_wp2
      go_ret
      first | exact ⟨rfl, HB5.out⟩ | exact ⟨fun h => absurd h.2 (by decide), fun _ => ⟨rfl, HB5.out⟩⟩
    | false =>
      go_wp2_with fail
      refine Calls.mono (HPU.out (by trivial) (by trivial) w5 HB5.out) ?_
      rintro e w6 ⟨rfl, h6⟩
      go_wp2_with fail
      go_ret
      first | exact ⟨rfl, h6⟩ | exact ⟨fun _ => ⟨rfl, h6⟩, fun h => absurd h (by decide)⟩
end

section
open Go.RowKit

/-- A clearing's run, kept whole. -/
def ClS (ts : Array TypeId) (ty : TypeId) (args : Array Value) : Sem Value := Builtin.clear_ ts ty args
theorem clS_eq (ts : Array TypeId) (ty : TypeId) (args : Array Value) : Builtin.clear_ ts ty args = ClS ts ty args := rfl
theorem run_clear_store (W : World) (ty : TypeId) (b o c : Nat) (hc : ∀ j, j < 3 → (W.cell? ⟨b, o + j, none⟩).isSome = true) (hf : ∀ j, j < 3 → W.frozen? ⟨b, o + j, none⟩ = false) :
    (ClS #[207] ty #[.slice (some ⟨b, o, none⟩) 1 c]).run Tryz.prog W = .ok (.tuple #[]) (W.setCells b o [.bool false, .int .i64 0, .int .i64 0]) := by
  obtain ⟨i, hi, hz0, _, _⟩ := info_is infoStore
  have hv : ∀ w, (zeroValue 212).run Tryz.prog w = .ok (.agg #[.bool false, .int .i64 0, .int .i64 0]) w := fun w => by simp [zeroValue, typeInfo, hi, hz0]
  have hzc : (Builtin.zeroCells (Value.agg #[.bool false, .int .i64 0, .int .i64 0]).cells 1).toList = [.bool false, .int .i64 0, .int .i64 0] := by kernel_rfl
  have hst := run_storeCells_cells (P := Tryz.prog) b o [.bool false, .int .i64 0, .int .i64 0] 0 W (by simpa using hc) (by simpa using hf) (by simp [Value.oneCell'])
  simp only [Nat.add_zero] at hst
  unfold ClS
  simp [Builtin.clear_, run_underlying Tryz.underlying207, hv, hzc, hst]
theorem putL_len : ∀ (us : List Value) (xs : List Value) (o : Nat), (putL xs o us).length = xs.length
  | [], _, _ => rfl
  | u :: us, xs, o => by unfold putL; rw [putL_len us]; simp
theorem putL_take : ∀ (us xs : List Value) (o m : Nat), m ≤ o → (putL xs o us).take m = xs.take m
  | [], _, _, _, _ => rfl
  | u :: us, xs, o, m, h => by
    unfold putL
    rw [putL_take us _ _ _ (by omega), List.take_set_of_le (by omega)]

attribute [local go_sem ↓] appS_eq clS_eq
set_option maxRecDepth 100000 in
set_option maxHeartbeats 800000 in
theorem delete_any (w : World) (B qb qc k : Nat) (l : List Wt) (hown : w.ownsRow B 212 3 (.slice (some ⟨qb, 0, none⟩) l.length qc) l.length (waitV l)) (hl : l.length ≤ 3) (hk : k < l.length) :
    Calls Tryz.prog 149 #[.slice (some ⟨qb, 0, none⟩) l.length qc, .int .i64 (k : Int), .int .i64 ((k : Int) + 1)] w fun e w' => e = .returned (.slice (some ⟨qb, 0, none⟩) (l.length - 1) qc) ∧ w'.ownsRow B 212 3 (.slice (some ⟨qb, 0, none⟩) (l.length - 1) qc) (l.length - 1) (waitV (l.eraseIdx k)) ∧ w.grownBy w' (some qb) := by
  have hqc : l.length ≤ qc := by
    rcases hown.2 with ⟨h0, _⟩ | ⟨g', cap', cur, hv', _, _, h5, _⟩
    · simp at h0
    · simp only [Value.slice.injEq, Option.some.injEq, Addr.mk.injEq, and_true] at hv'
      rw [hv'.2.2]; exact h5
  have hcut := waitV_cut hl hk
  have hwl := waitV_len l
  obtain ⟨m, hn⟩ : ∃ m, l.length = m + 1 := ⟨l.length - 1, by omega⟩
  rw [hn] at hown hqc hl hk hcut hwl ⊢
  simp only [Nat.add_sub_cancel] at hcut ⊢
  obtain ⟨vs, hvs⟩ : ∃ vs, vs = (waitV l).drop ((k + 1) * 3) := ⟨_, rfl⟩
  have hvl : vs.length = (m - k) * 3 := by rw [hvs, List.length_drop, hwl]; omega
  have hqb : (Value.slice (some ⟨qb, 0, none⟩) (m + 1) qc).ownBlock = some qb := rfl
  have hcell : ∀ (W : World), W.heap = w.heap → ∀ j, j < (m + 1) * 3 → ∃ u, (waitV l)[j]? = some u ∧ W.cell? ⟨qb, j, none⟩ = some u := fun W e j hj => by
    have hj' : j < (waitV l).length := by rw [hwl]; exact hj
    exact ⟨_, List.getElem?_eq_getElem hj', (World.cell?_of_block (by rw [e])).trans (fam_cell hown hqb (List.getElem?_eq_getElem hj'))⟩
  have hone : ∀ u ∈ vs, u.oneCell' = true := fun u hu => by
    rw [hvs] at hu
    have := List.mem_of_mem_drop hu
    unfold waitV rows3 at this
    rw [List.mem_map] at this
    obtain ⟨j, _, rfl⟩ := this
    exact waitC_one _ _
  obtain ⟨i, hi, hz0, hz1, hz2⟩ := info_is infoStore
  have hrun : ∀ W a2 c2, W.heap = w.heap → (0 < m - k → a2 = ⟨qb, (k + 1) * 3, none⟩) → (AppS #[207, 207] 207 #[.slice (some ⟨qb, 0, none⟩) k qc, .slice (some a2) (m - k) c2]).run Tryz.prog W = .ok (.slice (some ⟨qb, 0, none⟩) m qc) (W.setCells qb (k * 3) vs) := fun W a2 c2 e ha2 => by
    have hsrc : Src Tryz.prog i.size 207 (.slice (some a2) (m - k) c2) (m - k) vs W := by
      rw [hz1]
      refine Src.ofSlice W Tryz.underlying207 a2 _ c2 _ hvl (fun j u hu => ?_) hone
      have hj : j < (m - k) * 3 := by
        rcases Nat.lt_or_ge j ((m - k) * 3) with h | h
        · exact h
        · rw [List.getElem?_eq_none (by rw [hvl]; exact h)] at hu; cases hu
      rw [hvs, List.getElem?_drop] at hu
      have hadd : (⟨qb, (k + 1) * 3, none⟩ : Addr).add j = ⟨qb, (k + 1) * 3 + j, none⟩ := by unfold Addr.add; split <;> simp_all
      rw [ha2 (by omega), hadd]
      obtain ⟨u', g1, g2⟩ := hcell W e ((k + 1) * 3 + j) (by omega)
      rw [hu] at g1
      rw [g2, g1]
    have := run_append_room_src W 207 207 207 212 i Tryz.underlying207 hi qb 0 k qc (.slice (some a2) (m - k) c2) (m - k) _ hsrc (by omega) (fun j hj => by
      rw [hvl] at hj
      obtain ⟨u', _, g2⟩ := hcell W e (0 + k * i.size + j) (by rw [hz1]; omega)
      rw [g2]; rfl) (fun j hj => (World.frozen?_of_block (by rw [e])).trans (fam_frozen hown hqb _))
    rw [hz1, Nat.zero_add, show k + (m - k) = m by omega] at this
    exact this
  have hr1 : (AppS #[207, 207] 207 #[.slice (some ⟨qb, 0, none⟩) k qc, .slice (if qc = k + 1 then some ⟨qb, 0, none⟩ else some ⟨qb, (k + 1) * 3, none⟩) (m - k) (qc - (k + 1))]).run Tryz.prog w.drew = .ok (.slice (some ⟨qb, 0, none⟩) m qc) (w.drew.setCells qb (k * 3) vs) := by
    split
    · exact hrun w.drew ⟨qb, 0, none⟩ _ rfl (fun h => by omega)
    · exact hrun w.drew ⟨qb, (k + 1) * 3, none⟩ _ rfl (fun _ => rfl)
  have hown1 : (w.drew.setCells qb (k * 3) vs).ownsRow B 212 3 (.slice (some ⟨qb, 0, none⟩) (m + 1) qc) (m + 1) (putL (waitV l) (k * 3) vs) := fam_puts hqb vs (k * 3) w.drew _ (fam_keeps hown (fun _ _ => rfl))
  have hcl := fun W (e : W.heap = (w.drew.setCells qb (k * 3) vs).heap) => run_clear_store W 0 qb (m * 3) (qc - m) (fun j hj => by
      have hj' : m * 3 + j < (putL (waitV l) (k * 3) vs).length := by rw [putL_len, hwl]; omega
      rw [(World.cell?_of_block (by rw [e])).trans (fam_cell hown1 hqb (List.getElem?_eq_getElem hj'))]; rfl) (fun j hj => (World.frozen?_of_block (by rw [e])).trans (fam_frozen hown1 hqb _))
  have hc0 := hcl _ rfl
  have hc1 := hcl (w.drew.setCells qb (k * 3) vs).drew rfl
  have HF : Hid (∀ W, W.heap = ((w.drew.setCells qb (k * 3) vs).setCells qb (m * 3) [.bool false, .int .i64 0, .int .i64 0]).heap → W.os = w.os → W.tape = w.tape → W.output = w.output → W.ownsRow B 212 3 (.slice (some ⟨qb, 0, none⟩) m qc) m (waitV (l.eraseIdx k)) ∧ w.grownBy W (some qb)) := fun W e e1 e2 e3 => by
    have hown2 := fam_puts hqb [.bool false, .int .i64 0, .int .i64 0] (m * 3) _ _ hown1
    have hsh := fam_shrink hown2 (m := m) (by omega)
    rw [putL_take _ _ _ _ (Nat.le_refl _), hvs, hcut] at hsh
    refine ⟨fam_keeps hsh (fun g _ => by rw [e, hvs]), ⟨e1, e2, e3, ?_, fun j hj hne => ?_⟩⟩
    · rw [e]
      have h1 := (grown_puts qb vs (k * 3) w.drew).size
      have h2 := (grown_puts qb [.bool false, .int .i64 0, .int .i64 0] (m * 3) (w.drew.setCells qb (k * 3) vs)).size
      exact Nat.le_trans h1 h2
    · have h1 := (grown_puts qb vs (k * 3) w.drew)
      have h2 := (grown_puts qb [.bool false, .int .i64 0, .int .i64 0] (m * 3) (w.drew.setCells qb (k * 3) vs))
      rw [e]
      exact (h2.block j (Nat.lt_of_lt_of_le hj h1.size) hne).trans (h1.block j hj hne)
  have HG : Hid (∀ vs o (W : World), (W.setCells qb o vs).os = W.os ∧ (W.setCells qb o vs).tape = W.tape ∧ (W.setCells qb o vs).output = W.output) := fun vs o W => ⟨(grown_puts qb vs o W).os, (grown_puts qb vs o W).tape, (grown_puts qb vs o W).output⟩
  have hkk : ¬ (k : Int) = (k : Int) + 1 := by omega
  clear hown hcut hwl hvs hvl hqb hcell hone hi hz0 hz1 hz2 hrun hown1 hcl hn
  go_enter Tryz.func149, Tryz.ntmps149
  go_wp2
  go_region
  all_goals go_wp2
  all_goals go_ret
  all_goals have hf := HF.out _ rfl ((HG.out _ _ _).1.trans ((HG.out _ _ _).1.trans rfl)) ((HG.out _ _ _).2.1.trans ((HG.out _ _ _).2.1.trans rfl)) ((HG.out _ _ _).2.2.trans ((HG.out _ _ _).2.2.trans rfl))
  all_goals first | exact ⟨rfl, hf⟩ | (simp only [‹qc = k + 1›] at hf; exact ⟨rfl, hf⟩)
end

section
open Go.RowKit Go.Shelf

attribute [local go_sem] Oper.semAt_some

/-- One that waits, with its place. -/
abbrev PW := Nat × Wt
def pwV (x : PW) : Array Value := #[.int .i64 (x.1 : Int), .agg #[.bool x.2.lk, .int .i64 x.2.wh, .int .i64 x.2.what]]
/-- What has come when k rounds are over, from behind. -/
def backTo (l : List Wt) (k : Nat) : List PW := (List.range k).map fun j => (l.length - 1 - j, l.getD (l.length - 1 - j) default)
theorem backTo_succ (l : List Wt) (k : Nat) : backTo l (k + 1) = backTo l k ++ [(l.length - 1 - k, l.getD (l.length - 1 - k) default)] := by simp [backTo, List.range_succ]
theorem backTo_length (l : List Wt) (k : Nat) : (backTo l k).length = k := by simp [backTo]

set_option maxRecDepth 100000 in
set_option maxHeartbeats 2000000 in
theorem back1_in (F : Fence) (n : Nat) (hF : F.fn 162) (hro : F.round = none) (hn : 1 ≤ n) (lp Bs n₀ : Nat) (qa : Option Addr) (qc : Nat) (l : List Wt) (hl : l.length ≤ 3) (J Jx : List PW → World → Prop)
    (hY : ∀ pre x W, J pre W → pre.length < l.length → YieldAt F (n - 1) Tryz.prog lp (pwV x) W fun e W' =>
      (e = .returned (.bool true) ∧ J (pre ++ [x]) W' ∧ Below n₀ W W') ∨ (e = .returned (.bool false) ∧ Jx (pre ++ [x]) W'))
    (W : World) (hBs : W.cell? ⟨Bs, 0, none⟩ = some (.slice qa l.length qc)) (hBn : Bs < n₀) (hc : WIn W qa l) (hq : ∀ b o, qa = some ⟨b, o, none⟩ → 0 < l.length → b < n₀) (h0 : J [] W) :
    CallsIn F n Tryz.prog 162 #[.func (.yield lp) #[] #[], .pointer (some ⟨Bs, 0, none⟩)] W fun e W' => (∃ v, e = .returned v) ∧
      ((∃ ys, ys = backTo l l.length ∧ J ys W') ∨ (∃ pre, (∃ k, k ≤ l.length ∧ pre = backTo l k) ∧ Jx pre W')) := by
  obtain ⟨len, hlen⟩ : ∃ len, l.length = len := ⟨_, rfl⟩
  refine callsIn_of_wp Tryz.func162 rfl hF ?_ hro
  simp only [Tryz.ntmps162, List.size_toArray, List.length_cons, List.length_nil, Nat.reduceAdd, Nat.reduceSub, Array.replicate_succ, Array.replicate_zero, List.push_toArray, List.append_toArray, List.nil_append, List.cons_append]
  rw [hlen] at hBs hl
  gi_wp2
  gi_loopw [3] (fun i wr => ∃ k : Nat, k ≤ len ∧ i = .int .i64 ((len : Int) - 1 - (k : Int)) ∧ J (backTo l k) wr ∧ Below n₀ W wr) (fun i _ => (intOf i + 1).toNat)
  case atStart => exact ⟨0, Nat.zero_le _, by simp, h0, Below.refl _ _⟩
  case round =>
    obtain ⟨k, hk, rfl, hJs, hnx⟩ := hrel
    have hbx : wr.cell? ⟨Bs, 0, none⟩ = some (.slice qa len qc) := (hnx.cell (p := ⟨Bs, 0, none⟩) hBn).trans hBs
    by_cases hlt : k < len
    · obtain ⟨p, hp⟩ : ∃ p : Nat, (len : Int) - 1 - (k : Int) = (p : Int) := ⟨len - 1 - k, by omega⟩
      have hpl : p < len := by omega
      have hpe : l.length - 1 - k = p := by omega
      obtain ⟨b, o, rfl, c0, c1, c2⟩ := hc p (by omega)
      have hb := hq b o rfl (by omega)
      obtain ⟨y, hy0⟩ : ∃ y, l.getD p default = y := ⟨_, rfl⟩
      obtain ⟨fn, tmps, assign, body, hy, hR⟩ := hY (backTo l k) (p, y) wr hJs (by rw [backTo_length]; omega)
      have hbk : backTo l (k + 1) = backTo l k ++ [(p, y)] := by rw [backTo_succ, hpe, hy0]
      rw [hy0] at c0 c1 c2
      have d0 := (hnx.cell (p := ⟨b, o + p * 3, none⟩) hb).trans c0
      have d1 := (hnx.cell (p := ⟨b, o + p * 3 + 1, none⟩) hb).trans c1
      have d2 := (hnx.cell (p := ⟨b, o + p * 3 + 2, none⟩) hb).trans c2
      obtain ⟨lk', wh', what'⟩ := y
      simp only [pwV] at hy d0 d1 d2
      rw [hp]
      gi_wp2
      refine hR.mono ?_
      rintro e W3 (⟨rfl, hJ3, hk3⟩ | ⟨rfl, hJx3⟩)
      · gi_wp2
        go_roundw
        case rel => exact ⟨k + 1, by omega, by rw [← hp]; simp <;> omega, by rw [hbk]; exact hJ3, hnx.trans hk3⟩
        case measure => first | (simp [intOf]; done) | (simp [intOf]; omega)
      · gi_wp2
        refine bodyPost_ret (results_none rfl _ _ _) rfl ?_
        exact ⟨⟨_, rfl⟩, .inr ⟨_, ⟨k + 1, by omega, hbk.symm⟩, hJx3⟩⟩
    · obtain rfl : k = len := by omega
      have hneg : (k : Int) - 1 - (k : Int) = -1 := by omega
      rw [hneg]
      gi_wp2
      go_end0
      exact ⟨⟨_, rfl⟩, .inl ⟨_, by rw [hlen], hJs⟩⟩
end

section
open Go.RowKit Go.Shelf

attribute [local go_sem] Oper.semAt_some

theorem finds_none {s : Sx} {t x : Nat} {l : List Wt} {f : Wt → Bool} (hf : f = fun y => !y.lk && decide (y.wh = (x : Int))) (hl : (thOf s t).wait = l) (h : ∀ y ∈ backTo l l.length, f y.2 = false) : findsW s t x = s.words.getD x 0 := by
  have hn : ∀ p, p < l.length → f (l.getD p default) = false := fun p hp => by
    have hm : (l.length - 1 - (l.length - 1 - p), l.getD (l.length - 1 - (l.length - 1 - p)) default) ∈ backTo l l.length := List.mem_map.2 ⟨l.length - 1 - p, List.mem_range.2 (by omega), rfl⟩
    have h2 := h _ hm
    rwa [show l.length - 1 - (l.length - 1 - p) = p by omega] at h2
  unfold findsW
  rw [hl, ← hf, back_none hn]
  simp
theorem finds_some {s : Sx} {t x k : Nat} {l : List Wt} {f : Wt → Bool} {p0 : List PW} {y : PW} (hf : f = fun y => !y.lk && decide (y.wh = (x : Int))) (hl : (thOf s t).wait = l) (hk : k ≤ l.length) (e : p0 ++ [y] = backTo l k) (hy : f y.2 = true) (hz : ∀ z ∈ p0, f z.2 = false) : findsW s t x = y.2.what := by
  have hlen : p0.length + 1 = k := by have := congrArg List.length e; simpa [backTo_length] using this
  subst hlen
  rw [backTo_succ] at e
  obtain ⟨e1, e2⟩ := List.append_inj' e rfl
  simp only [List.cons.injEq, and_true] at e2
  have ho : ∀ p, l.length - 1 - p0.length < p → p < l.length → f (l.getD p default) = false := fun p h1 h2 => by
    have hm : (l.length - 1 - (l.length - 1 - p), l.getD (l.length - 1 - (l.length - 1 - p)) default) ∈ backTo l p0.length := List.mem_map.2 ⟨l.length - 1 - p, List.mem_range.2 (by omega), rfl⟩
    rw [← e1] at hm
    have h3 := hz _ hm
    rwa [show l.length - 1 - (l.length - 1 - p) = p by omega] at h3
  have hy2 : f (l.getD (l.length - 1 - p0.length) default) = true := by rw [e2] at hy; exact hy
  unfold findsW
  rw [hl, ← hf, back_some (by omega) hy2 ho, e2]

/-- A box of one cell. -/
theorem box_in {W : World} {B : Nat} {v : Value} {t : TypeId} (h : W.heap[B]? = some (.cells #[v] t (0, 0))) : W.cell? ⟨B, 0, none⟩ = some v ∧ W.frozen? ⟨B, 0, none⟩ = false := by
  constructor <;> simp [World.cell?, World.frozen?, h]

set_option maxHeartbeats 1000000 in
theorem back_in (F : Fence) (n : Nat) (hF : F.fn 152) (hro : F.round = none) (a : Option Addr) (len cap : Nat) (w : World) :
    CallsIn F n Tryz.prog 152 #[.slice a len cap] w fun e w' => e = .returned (.func (.func 162) #[] #[.pointer (some ⟨w.heap.size, 0, none⟩)]) ∧ w' = w.alloc (.cells #[.slice a len cap] 207) := by
  refine callsIn_of_wp Tryz.func152 rfl hF ?_ hro
  simp only [Tryz.ntmps152, List.size_toArray, List.length_cons, List.length_nil, Nat.reduceAdd, Nat.reduceSub, Array.replicate_succ, Array.replicate_zero, List.push_toArray, List.append_toArray, List.nil_append, List.cons_append]
  gi_wp2
  go_ret
  exact ⟨rfl, rfl⟩
theorem back_stops (F : Fence) (n : Nat) (hF : F.fn 162) (hro : F.round = none) (hn : 1 ≤ n) (Bs n₀ : Nat) (qa : Option Addr) (qc : Nat) (l : List Wt) (hl : l.length ≤ 3) (w : World) (hBs : w.cell? ⟨Bs, 0, none⟩ = some (.slice qa l.length qc)) (hBn : Bs < n₀) (hn₀ : n₀ ≤ w.heap.size) (hc : WIn w qa l) (hq : ∀ b o, qa = some ⟨b, o, none⟩ → 0 < l.length → b < n₀) :
    SeqStopsK F n Tryz.prog 162 #[.pointer (some ⟨Bs, 0, none⟩)] pwV (Below n₀) (fun ys => ys = backTo l l.length) (fun pre => ∃ k, k ≤ l.length ∧ pre = backTo l k) l.length w := fun lp J Jx W hW _ _ hY h0 =>
  back1_in F n hF hro hn lp Bs n₀ qa qc l hl J Jx hY W ((hW.cell (p := ⟨Bs, 0, none⟩) (by show Bs < _; omega)).trans hBs) hBn (hc.below hW) hq h0

set_option maxRecDepth 100000 in
set_option maxHeartbeats 1000000 in
theorem bload_any (w : World) (B : Nat) (Q : Cd) (sb mb : Nat) (v : Rp → Value) (s : Sx) (t x : Nat) (hK : Q.K = bufK) (hp : MPre w B Q sb mb v s t) (hx : x < s.words.length) :
    Calls Tryz.prog 139 #[.pointer (some ⟨Q.bb, 0, none⟩), .int .i64 t, .int .i64 x] w fun e w' => e = .returned (.int .i64 (findsW s t x)) ∧ Below w.heap.size w w' := by
  have hb := buf_bf hK
  have hs := hp.hs
  have hnt := hp.hn
  have htl := hp.ht
  have hw3 := hp.hw
  have hn4 := hp.h4
  obtain ⟨lb, lc, hlv, hlb, hllb⟩ := hs.bufsB hb (by omega)
  obtain ⟨qa, qc, hq⟩ := hs.bufV hb t
  have hw0 := hs.b0 hb
  have b0 := cell_up2 (hs.b0 hb)
  have b1 := cell_up2 (hs.b1 hb)
  rw [hlv] at b1
  have bq := cell_up2 (hs.bufc hb hlb (t := t) (by omega))
  rw [hq] at bq
  obtain ⟨r, hr⟩ : ∃ r, s.words.getD x 0 = r := ⟨_, rfl⟩
  have HR : Hid (s.words.getD x 0 = r) := hr
  have HPL : Hid (∀ W, Below w.heap.size w W → Calls Tryz.prog 153 #[.pointer (some ⟨mb, 0, none⟩), .int .i64 t, .int .i64 (x : Int)] W fun e w' => e = .returned (.int .i64 r) ∧ w' = W) := fun W h => by rw [← hr]; exact pload_any W B Q sb mb v s t x (hs.below h) hp.hm hx
  have HWI : Hid (∀ W, Below w.heap.size w W → WIn W qa (thOf s t).wait) := fun W h => (hs.bwin hb hq).below h
  have HQL : Hid (∀ b o, qa = some ⟨b, o, none⟩ → 0 < (thOf s t).wait.length → b < w.heap.size) := fun b o e h => by
    obtain ⟨b', o', e', c0, _⟩ := hs.bwin hb hq 0 h
    rw [e] at e'
    simp only [Option.some.injEq, Addr.mk.injEq] at e'
    rw [e'.1]; exact lt_of_cell c0
  obtain ⟨l, hl⟩ : ∃ l, (thOf s t).wait = l := ⟨_, rfl⟩
  rw [hl] at bq hw3 HWI HQL
  obtain ⟨n, hn⟩ : ∃ m, Q.nt = m := ⟨_, rfl⟩
  rw [hn] at b1 hnt
  have htn : t < n := by omega
  have hn44 : n ≤ 4 := by omega
  have lbb : Q.bb < w.heap.size := lt_of_cell (hs.b0 hb)
  have HL : Hid ((thOf s t).wait = l) := hl
  clear hr hp hs hlv hlb hq hn hnt htl hn4 hl
  refine (callsIn_wide (n := 5)).1 ?_
  refine callsIn_of_wp_marks Tryz.func139 rfl trivial ?_ rfl
  simp only [Tryz.ntmps139, List.size_toArray, List.length_cons, List.length_nil, Nat.reduceAdd, Nat.reduceSub, Array.replicate_succ, Array.replicate_zero, List.push_toArray, List.append_toArray, List.nil_append, List.cons_append]
  gi_wp2
  refine ⟨trivial, (back_in Fence.wide 4 trivial rfl qa l.length qc _).mono ?_⟩
  rintro e w' ⟨rfl, rfl⟩
  gi_wp2
  obtain ⟨W0, hW0⟩ : ∃ W0, ((w.alloc (.cells #[.int .i64 (x : Int)] 3)).alloc (.cells #[.int .i64 0] 3)).alloc (.cells #[.slice qa l.length qc] 207) = W0 := ⟨_, rfl⟩
  have hs0 : W0.heap.size = w.heap.size + 3 := by rw [← hW0]; simp
  have hB0 : W0.heap[w.heap.size]? = some (.cells #[.int .i64 (x : Int)] 3 (0, 0)) := by
    rw [← hW0]; exact ((Below.heap_alloc _ _ _ (by simp; omega)).trans (Below.heap_alloc _ _ _ (by simp))).trans (World.alloc_heap_new w _)
  have hB1 : W0.heap[w.heap.size + 1]? = some (.cells #[.int .i64 0] 3 (0, 0)) := by
    rw [← hW0]; refine (Below.heap_alloc _ _ _ (by simp)).trans ?_
    have := World.alloc_heap_new (w.alloc (.cells #[.int .i64 (x : Int)] 3)) (.cells #[.int .i64 0] 3); rwa [World.size_alloc] at this
  have hB2 : W0.heap[w.heap.size + 1 + 1]? = some (.cells #[.slice qa l.length qc] 207 (0, 0)) := by
    rw [← hW0]; have := World.alloc_heap_new ((w.alloc (.cells #[.int .i64 (x : Int)] 3)).alloc (.cells #[.int .i64 0] 3)) (.cells #[.slice qa l.length qc] 207); rwa [World.size_alloc, World.size_alloc] at this
  have hbw : Below w.heap.size w W0 := by
    rw [← hW0]; exact (((Below.refl _ w).alloc (Nat.le_refl _) _).alloc (by simp) _).alloc (by simp; omega) _
  rw [hW0]
  obtain ⟨f, hf⟩ : ∃ f : Wt → Bool, f = fun y => !y.lk && decide (y.wh = (x : Int)) := ⟨_, rfl⟩
  refine wpIn_rangeFunc_ownH (F := Fence.wide) (n := 5) rfl (by omega) (gf := 162) (lb := #[.pointer (some ⟨w.heap.size + 1 + 1, 0, none⟩)]) rfl trivial (enters_of Tryz.func162 (by kernel_rfl) rfl)
    (back_stops Fence.wide 4 trivial rfl (by omega) (w.heap.size + 1 + 1) W0.heap.size qa qc l hw3 W0 (box_in hB2).1 (by omega) (Nat.le_refl _) (HWI.out _ hbw) (fun b o e h => by have := HQL.out b o e h; omega))
    belowK_t (belowK_b (Nat.le_refl _)) (Below.refl _ _) (fun _ => rfl)
    (fun pre W => (∀ y ∈ pre, f y.2 = false) ∧ Below W0.heap.size W0 W)
    (fun c pre W => (c = .ret ∧ ∃ p0 y, pre = p0 ++ [y] ∧ f y.2 = true ∧ (∀ z ∈ p0, f z.2 = false) ∧ W.cell? ⟨w.heap.size + 1, 0, none⟩ = some (.int .i64 y.2.what)) ∧ Below w.heap.size w W)
    (OwnFrom.and (ownFrom_pure _ _) (ownFrom_below (Nat.le_refl _) (Nat.le_refl _)))
    (fun c => OwnFrom.and (Own.from (fun s A B row hs hg hr => by obtain ⟨h1, p0, y, h2, h3, h4, h5⟩ := hs; exact ⟨h1, p0, y, h2, h3, h4, cell_kept h5 hg hr⟩) _) (ownFrom_below (Nat.le_refl _) (by omega)))
    ⟨by simp, Below.refl _ _⟩
    (fun y a' W => ∃ Bx : Nat, (W.cell? ⟨Bx, 0, none⟩ = some (.bool y.2.lk) ∧ W.cell? ⟨Bx, 1, none⟩ = some (.int .i64 y.2.wh) ∧ W.cell? ⟨Bx, 2, none⟩ = some (.int .i64 y.2.what)) ∧ a' = { tmps := #[.pointer (some ⟨Q.bb, 0, none⟩), .int .i64 t, .int .i64 x, undef, undef, .pointer (some ⟨w.heap.size, 0, none⟩), .pointer (some ⟨w.heap.size + 1, 0, none⟩), undef, .pointer (some ⟨Bx, 0, none⟩),
          .pointer (some ⟨Q.bb, 0, none⟩), .pointer (some ⟨Q.bb, 0, none⟩), .pointer (some ⟨Q.bb, 1, none⟩), .slice (some ⟨lb, 0, none⟩) n lc, .int .i64 t, .pointer (some ⟨lb, t, none⟩), .slice qa l.length qc,
          .func (.func 162) #[] #[.pointer (some ⟨w.heap.size + 1 + 1, 0, none⟩)], .int .i64 (y.1 : Int), .agg #[.bool y.2.lk, .int .i64 y.2.wh, .int .i64 y.2.what], undef, undef, undef, undef, undef, undef, undef, undef, undef, undef, undef, undef, undef, undef], defers := [] })
    (fun y a' => Own.from (fun s A B row hs hg hr => by obtain ⟨Bx, ⟨h1, h2, h3⟩, h4⟩ := hs; exact ⟨Bx, ⟨cell_kept h1 hg hr, cell_kept h2 hg hr, cell_kept h3 hg hr⟩, h4⟩) _) ?assign ?body ?done ?stop
  case assign =>
    rintro lp pre ⟨i, lk, wh, what⟩ W K ⟨h1, hbW⟩ hK
    clear hB0 hB1 hB2 hW0
    simp only [pwV] at hK ⊢
    gi_wp2
    exact hK _ _ ((KeepsOthers.alloc _ _).from _) ((Below.refl _ _).alloc hbW.size _) ⟨h1, hbW.alloc hbW.size _⟩ ⟨W.heap.size, ⟨World.cell?_alloc_new _ _ _ _, World.cell?_alloc_new _ _ _ _, World.cell?_alloc_new _ _ _ _⟩, rfl⟩
  case body =>
    rintro lp pre ⟨i, lk, wh, what⟩ a' W hlp hlr ⟨h1, hbW⟩ ⟨Bx, ⟨d0, d1, d2⟩, rfl⟩ hN
    have c0 : W.cell? ⟨w.heap.size, 0, none⟩ = some (.int .i64 (x : Int)) := (hbW.cell (p := ⟨w.heap.size, 0, none⟩) (by show w.heap.size < _; omega)).trans (box_in hB0).1
    have c1 : W.cell? ⟨w.heap.size + 1, 0, none⟩ = some (.int .i64 0) := (hbW.cell (p := ⟨w.heap.size + 1, 0, none⟩) (by show w.heap.size + 1 < _; omega)).trans (box_in hB1).1
    have f1 : W.frozen? ⟨w.heap.size + 1, 0, none⟩ = false := (hbW.frozen (p := ⟨w.heap.size + 1, 0, none⟩) (by show w.heap.size + 1 < _; omega)).trans (box_in hB1).2
    have HN : Hid (∀ e a'' W'', f ⟨lk, wh, what⟩ = false → e = Exit.normal → W'' = W → ownPostG W0.heap.size (Below W0.heap.size) (fun pre W => (∀ y ∈ pre, f y.2 = false) ∧ Below W0.heap.size W0 W) (fun c pre W => (c = .ret ∧ ∃ p0 y, pre = p0 ++ [y] ∧ f y.2 = true ∧ (∀ z ∈ p0, f z.2 = false) ∧ W.cell? ⟨w.heap.size + 1, 0, none⟩ = some (.int .i64 y.2.what)) ∧ Below w.heap.size w W) (pre ++ [(i, ⟨lk, wh, what⟩)]) W e a'' W'') := fun e a'' W'' hh he hW => by
      subst he; subst hW
      refine ⟨KeepsFrom.refl _ _, Below.refl _ _, fun y hy => ?_, hbW⟩
      rcases List.mem_append.1 hy with h | h
      · exact h1 y h
      · simp only [List.mem_singleton] at h; subst h; exact hh
    simp only at d0 d1 d2 ⊢
    cases lk
    · by_cases he : (x : Int) = wh
      · subst he
        gi_wp2
        refine ⟨(KeepsOthers.setCell _ _ _).from _, ⟨rfl, pre, _, rfl, by rw [hf]; simp, h1, World.cell?_setCell_same' _ _ _ (by rw [c1]; rfl)⟩, ?_⟩
        exact (hbw.trans (hbW.mono (by omega))).setCell (by show w.heap.size ≤ w.heap.size + 1; omega) _
      · have he' : ¬ wh = (x : Int) := fun e => he e.symm
        gi_wp2
        exact HN.out _ _ _ (by rw [hf]; simp [he']) rfl rfl
    · gi_wp2
      exact HN.out _ _ _ (by rw [hf]; simp) rfl rfl
  case done =>
    rintro D xs W hD hS ⟨h1, hbW⟩ hDD
    have hbw' : Below w.heap.size w W := hbw.trans (hbW.mono (by omega))
    have c0 : W.cell? ⟨w.heap.size, 0, none⟩ = some (.int .i64 (x : Int)) := (hbW.cell (p := ⟨w.heap.size, 0, none⟩) (by show w.heap.size < _; omega)).trans (box_in hB0).1
    have c1 : W.cell? ⟨w.heap.size + 1, 0, none⟩ = some (.int .i64 0) := (hbW.cell (p := ⟨w.heap.size + 1, 0, none⟩) (by show w.heap.size + 1 < _; omega)).trans (box_in hB1).1
    have f1 : W.frozen? ⟨w.heap.size + 1, 0, none⟩ = false := (hbW.frozen (p := ⟨w.heap.size + 1, 0, none⟩) (by show w.heap.size + 1 < _; omega)).trans (box_in hB1).2
    have g0 := (hbw'.cell (p := ⟨Q.bb, 0, none⟩) lbb).trans hw0
    have hfin : findsW s t x = s.words.getD x 0 := finds_none hf HL.out (by rw [← hS]; exact h1)
    have HFIN : Hid (findsW s t x = r) := hfin.trans HR.out
    have HBW : Hid (Below w.heap.size w W) := hbw'
    have HDD : Hid (W.heap[D]? = some (.deferred (some []))) := hDD
    have hDw : w.heap.size ≤ D := by omega
    have HC1 : Hid (W.cell? ⟨w.heap.size + 1, 0, none⟩ = some (.int .i64 0)) := c1
    clear hB0 hB1 hB2 hW0 hS h1 hbW hbw hfin hf hDD hbw'
    gi_wp2
    refine wpIn_wide.2 ?_
    refine region_tail 6 (by kernel_rfl) (by kernel_rfl) ?_
    simp only [List.take_succ_cons, List.take_zero, List.drop_succ_cons, List.drop_zero]
    repeat still_step
    refine wpStill_nil ?_
    go_wp2_with fail
    refine Calls.mono (HPL.out _ HBW.out.drew) ?_
    rintro e w5 ⟨rfl, rfl⟩
    go_wp2_with fail
    gi_wp2
    have hK' : ((W.setCell ⟨w.heap.size + 1, 0, none⟩ (.int .i64 r)).drew).heap[D]? = some (.deferred (some [])) := (KeepsOthers.setCell W ⟨w.heap.size + 1, 0, none⟩ (.int .i64 r)).same D _ HDD.out rfl
    refine ⟨by simp, .inl ⟨_, _, rfl, run_takeDeferred hK', ?_⟩⟩
    have hc4 : ((W.setCell ⟨w.heap.size + 1, 0, none⟩ (.int .i64 r)).drew).cell? ⟨w.heap.size + 1, 0, none⟩ = some (.int .i64 r) := World.cell?_setCell_same' W ⟨w.heap.size + 1, 0, none⟩ (.int .i64 r) (by rw [HC1.out]; rfl)
    have hc5 := cell_kept hc4 (grownBy_putObj' _ D (.deferred none)) (fun r e => by cases e; exact ⟨_, hK', rfl⟩)
    refine ⟨.int .i64 r, ?_, by rw [HFIN.out], ((HBW.out.setCell (by show w.heap.size ≤ w.heap.size + 1; omega) _).drew).trans (belowK_b (w := w) (Nat.le_refl _) _ D _ _ hDw hK' rfl rfl)⟩
    simp [results, Tryz.f139, go_sem, hc5]
  case stop =>
    rintro D c pre W hD ⟨k, hk, hpre⟩ ⟨⟨rfl, p0, y, hp0, hy, hz, hcr⟩, hbW⟩ hDD
    have hfin : findsW s t x = y.2.what := finds_some hf HL.out hk (hp0.symm.trans hpre) hy hz
    clear hB0 hB1 hB2 hW0
    gi_wp2
    refine ⟨by simp, .inl ⟨_, _, rfl, run_takeDeferred hDD, ?_⟩⟩
    have hc5 := cell_kept hcr (grownBy_putObj' _ D (.deferred none)) (fun r e => by cases e; exact ⟨_, hDD, rfl⟩)
    refine ⟨.int .i64 y.2.what, ?_, by rw [hfin], hbW.trans (belowK_b (w := w) (Nat.le_refl _) W D _ _ (by omega) hDD rfl rfl)⟩
    simp [results, Tryz.f139, go_sem, hc5]
end

end Go.Proofs.YtefnmbnakphhfadGreatDoor
