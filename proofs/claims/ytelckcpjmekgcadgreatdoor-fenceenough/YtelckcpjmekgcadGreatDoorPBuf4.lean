/-
  The memory with buffers: a lock waits to become free; one that waits is done.
  The memory with buffers: one that waits is taken out.
  The library's iterator that goes through what waits from behind; what a thread finds in a word.
-/
import Derived.Test.YtelckcpjmekgcadGreatDoorPBuf
import Derived.Deep.RegionHeld3
import Derived.Lib.SliceRun
import Derived.RangeFuncFrom
import Derived.RangeFuncNested
import Derived.RangeFuncBound
import Derived.RangeFuncCalls
import Derived.RangeFuncLeaves
import Derived.RangeFuncBox
import Derived.Shelf.Abstract
import Derived.Shelf.RegionOpen
import Derived.OwnWalkIn
import Derived.TacticsInMore
import Derived.LoopNIn
import Derived.LoopIn
namespace Go.Proofs.YtelckcpjmekgcadGreatDoor
section
open Go.RowKit

theorem QSt.bwin {w : World} {B : Nat} {Q : Cd} {sb mb : Nat} {v : Rp → Value} {s : Sx} (h : QSt w B Q sb mb v s) (hb : Q.K.bf = true) {t : Nat} {a : Option Addr} {c : Nat} (hv : v (.buf t) = .slice a (thOf s t).wait.length c) : WIn w a (thOf s t).wait := fun i hi => by
  have hown := h.bufO hb t
  obtain ⟨g, cap, h1, h2, _, _⟩ := fam_block hown (by omega)
  rw [hv] at h1
  simp only [Value.slice.injEq] at h1
  have hc : ∀ j, j < 3 → w.cell? ⟨g, i * 3 + j, none⟩ = some (waitC ((thOf s t).wait.getD i default) j) := fun j hj => fam_cell hown h2 (by unfold waitV; exact rows3_get hi hj)
  exact ⟨g, 0, h1.1, by simpa [waitC] using hc 0 (by omega), by simpa [waitC] using hc 1 (by omega), by simpa [waitC] using hc 2 (by omega)⟩
/-- Whether a lock waits to become free: all that does says nothing besides. -/
theorem frees_any {l : List Wt} (hz : ∀ x, x ∈ l → x.lk = true → x.what = 0) (a : Int) : decide ((⟨true, a, 0⟩ : Wt) ∈ l) = l.any fun z => z.lk && decide (z.wh = a) := by
  rw [Bool.eq_iff_iff]
  simp only [decide_eq_true_eq, List.any_eq_true, Bool.and_eq_true]
  constructor
  · intro h
    exact ⟨_, h, rfl, rfl⟩
  · rintro ⟨x, hx, h1, h2⟩
    have h3 := hz x hx h1
    obtain ⟨lk, wh, what⟩ := x
    simp only at h1 h2 h3
    subst h1 h2 h3
    exact hx

set_option maxRecDepth 100000 in
set_option maxHeartbeats 1600000 in
theorem bunlock_any (w : World) (B : Nat) (Q : Cd) (sb mb : Nat) (v : Rp → Value) (s : Sx) (t x : Nat) (hK : Q.K = bufK) (hp : MPre w B Q sb mb v s t) (hx : x < s.own.length) (b : Bool) (hb2 : ((thOf s t).wait.any fun z => z.lk && decide (z.wh = (x : Int))) = b) (hown : Bool) (ho : decide (s.own.getD x 0 = (t : Int)) = hown) (hroom : hown = true → b = false → (thOf s t).wait.length < 3) :
    Calls Tryz.prog 146 #[.pointer (some ⟨Q.bb, 0, none⟩), .int .i64 t, .int .i64 x] w fun e w' => (hown = true ∧ b = false → ChgQ B Q sb mb v w (storeW 1 s t ⟨true, x, 0⟩) (.bool true) e w') ∧ (hown = false ∨ b = true → e = .returned (.bool false) ∧ Below w.heap.size w w') := by
  have hb := buf_bf hK
  have hs := hp.hs
  have hnt := hp.hn
  have htl := hp.ht
  have hw3 := hp.hw
  have hn4 := hp.h4
  obtain ⟨lb, lc, hlv, hlb, hllb⟩ := hs.bufsB hb (by omega)
  obtain ⟨qa, qc, hq⟩ := hs.bufV hb t
  have b0 := hs.b0 hb
  have b1 := hs.b1 hb
  rw [hlv] at b1
  have bq := hs.bufc hb hlb (t := t) (by omega)
  rw [hq] at bq
  have HHO : Hid (∀ W, Below w.heap.size w W → Calls Tryz.prog 139 #[.pointer (some ⟨mb, 0, none⟩), .int .i64 t, .int .i64 x] W fun e w' => e = .returned (.bool hown) ∧ W = w') := fun W h => by
    have := holds_any W B Q sb mb v s t x (hs.below h) hp.hl hx
    rwa [ho] at this
  have HCO : Hid (∀ W, Below w.heap.size w W → Calls Tryz.prog 153 #[.slice qa (thOf s t).wait.length qc, .agg #[.bool true, .int .i64 (x : Int), .int .i64 0]] W fun e w' => e = .returned (.bool b) ∧ Below W.heap.size W w') := fun W h => by
    have := scontains_any W qa qc (thOf s t).wait ⟨true, x, 0⟩ ((hs.bwin hb hq).below h) (by omega)
    rwa [frees_any (fun y hy => (hp.hok y hy).2), hb2] at this
  have HPU : Hid (hown = true → b = false → ∀ W, Below w.heap.size w W → Calls Tryz.prog 151 #[.pointer (some ⟨Q.bb, 0, none⟩), .int .i64 t, .agg #[.bool true, .int .i64 (x : Int), .int .i64 0]] W (ChgQ B Q sb mb v w (storeW 1 s t ⟨true, x, 0⟩) (.tuple #[]))) := fun h1 h2 W h => (put_any W B Q sb mb v s t ⟨true, x, 0⟩ hK (hp.below h) (hroom h1 h2)).mono fun e w' ⟨g1, v', g2, g3, g4⟩ => ⟨g1, v', g2, (Moved.of_below h).trans g3, g4⟩
  have hBel : ∀ o, Below w.heap.size w (w.alloc o) := fun o => (Below.refl _ _).alloc (Nat.le_refl _) _
  obtain ⟨n, hn⟩ : ∃ m, Q.nt = m := ⟨_, rfl⟩
  rw [hn] at b1 hnt
  have htn : t < n := by omega
  have hn44 : n ≤ 4 := by omega
  obtain ⟨k, hk⟩ : ∃ m, (thOf s t).wait.length = m := ⟨_, rfl⟩
  rw [hk] at bq HCO hw3
  have d0 := cell_up b0
  have d1 := cell_up b1
  have dq := cell_up bq
  have lbb : Q.bb < w.heap.size := lt_of_cell b0
  have HBEL := Hid.out (p := Hid _) hBel
  have hO : ∀ i u, (#[Value.bool true, .int .i64 (x : Int), .int .i64 0] : Array Value)[i]? = some u → (w.alloc (.cells #[.bool true, .int .i64 (x : Int), .int .i64 0] 209)).cell? ⟨w.heap.size, i, none⟩ = some u := fun i u h => by rw [World.cell?_alloc_new, h]
  have o0 : (w.alloc (.cells #[.bool true, .int .i64 (x : Int), .int .i64 0] 209)).cell? ⟨w.heap.size, 0, none⟩ = some (.bool true) := hO 0 _ rfl
  have o1 : (w.alloc (.cells #[.bool true, .int .i64 (x : Int), .int .i64 0] 209)).cell? ⟨w.heap.size, 1, none⟩ = some (.int .i64 (x : Int)) := hO 1 _ rfl
  have o2 : (w.alloc (.cells #[.bool true, .int .i64 (x : Int), .int .i64 0] 209)).cell? ⟨w.heap.size, 2, none⟩ = some (.int .i64 0) := hO 2 _ rfl
  have e0 := d0 (.cells #[.bool true, .int .i64 (x : Int), .int .i64 0] 209)
  have e1 := d1 (.cells #[.bool true, .int .i64 (x : Int), .int .i64 0] 209)
  have eq := dq (.cells #[.bool true, .int .i64 (x : Int), .int .i64 0] 209)
  clear hp hs hlv hlb hq hn hk hnt htl hn4 hb2 ho hroom hBel hO
  go_enter Tryz.func146, Tryz.ntmps146
  go_wp2_with fail
  cases hown with
  | false =>
    go_quiet ((go_at_call 139; refine Calls.mono (HHO.out _ (below_drewN (HBEL.out _))) ?_; rintro e w4 ⟨rfl, rfl⟩; exact ⟨rfl, _, rfl⟩))
    go_wp2
    go_ret
    first | exact ⟨rfl, below_drewN (HBEL.out _)⟩ | exact ⟨fun h => absurd h.1 (by decide), fun _ => ⟨rfl, below_drewN (HBEL.out _)⟩⟩
  | true =>
    go_region_held3 (fun w' => w'.cell? ⟨Q.bb, 0, none⟩ = some (.pointer (some ⟨mb, 0, none⟩)) ∧ w'.cell? ⟨Q.bb, 1, none⟩ = some (.slice (some ⟨lb, 0, none⟩) n lc) ∧ w'.cell? ⟨lb, t, none⟩ = some (.slice qa k qc) ∧ w'.cell? ⟨w.heap.size, 0, none⟩ = some (.bool true) ∧ w'.cell? ⟨w.heap.size, 1, none⟩ = some (.int .i64 (x : Int)) ∧ w'.cell? ⟨w.heap.size, 2, none⟩ = some (.int .i64 0)) (refine ⟨?_, ?_, ?_, ?_, ?_, ?_⟩ <;> (first | assumption | (refine cell_drew ?_; assumption))) (first | (go_at_call 139; refine Calls.mono (HHO.out _ (by repeat (first | exact HBEL.out _ | refine Below.drew ?_))) ?_; rintro e w4 ⟨rfl, rfl⟩) | (go_at_call 153; refine Calls.mono (HCO.out _ (by repeat (first | exact HBEL.out _ | refine Below.drew ?_))) ?_; rintro e w5 ⟨rfl, hb5⟩; have z0 := (hb5.cell (p := ⟨Q.bb, 0, none⟩) (lt_of_cell e0)).trans e0; have z1 := (hb5.cell (p := ⟨Q.bb, 1, none⟩) (lt_of_cell e1)).trans e1; have zq := (hb5.cell (p := ⟨lb, t, none⟩) (lt_of_cell eq)).trans eq; have y0 := (hb5.cell (p := ⟨w.heap.size, 0, none⟩) (lt_of_cell o0)).trans o0; have y1 := (hb5.cell (p := ⟨w.heap.size, 1, none⟩) (lt_of_cell o1)).trans o1; have y2 := (hb5.cell (p := ⟨w.heap.size, 2, none⟩) (lt_of_cell o2)).trans o2; have HB5 : Hid (Below w.heap.size w w5) := (HBEL.out (.cells #[.bool true, .int .i64 (x : Int), .int .i64 0] 209)).drew.trans (hb5.mono (by show _ ≤ (w.alloc (.cells #[.bool true, .int .i64 (x : Int), .int .i64 0] 209)).heap.size; simp)); clear hb5))
    all_goals cases b with
    | true =>
      go_wp2
      go_ret
      first | exact ⟨rfl, HB5.out⟩ | exact ⟨fun h => absurd h.2 (by decide), fun _ => ⟨rfl, HB5.out⟩⟩
    | false =>
      go_wp2_with fail
      refine Calls.mono (HPU.out (by trivial) (by trivial) w5 HB5.out) ?_
      rintro e w6 ⟨rfl, h6⟩
      go_wp2_with fail
      go_ret
      first | exact ⟨rfl, h6⟩ | exact ⟨fun _ => ⟨rfl, h6⟩, fun h => absurd h (by decide)⟩
end

section
open Go.RowKit

/-- A clearing's run, kept whole. -/
def ClS (ts : Array TypeId) (ty : TypeId) (args : Array Value) : Sem Value := Builtin.clear_ ts ty args
theorem clS_eq (ts : Array TypeId) (ty : TypeId) (args : Array Value) : Builtin.clear_ ts ty args = ClS ts ty args := rfl
theorem run_clear_store (W : World) (ty : TypeId) (b o c : Nat) (hc : ∀ j, j < 3 → (W.cell? ⟨b, o + j, none⟩).isSome = true) (hf : ∀ j, j < 3 → W.frozen? ⟨b, o + j, none⟩ = false) :
    (ClS #[204] ty #[.slice (some ⟨b, o, none⟩) 1 c]).run Tryz.prog W = .ok (.tuple #[]) (W.setCells b o [.bool false, .int .i64 0, .int .i64 0]) := by
  obtain ⟨i, hi, hz0, _, _⟩ := info_is infoStore
  have hv : ∀ w, (zeroValue 209).run Tryz.prog w = .ok (.agg #[.bool false, .int .i64 0, .int .i64 0]) w := fun w => by simp [zeroValue, typeInfo, hi, hz0]
  have hzc : (Builtin.zeroCells (Value.agg #[.bool false, .int .i64 0, .int .i64 0]).cells 1).toList = [.bool false, .int .i64 0, .int .i64 0] := by kernel_rfl
  have hst := run_storeCells_cells (P := Tryz.prog) b o [.bool false, .int .i64 0, .int .i64 0] 0 W (by simpa using hc) (by simpa using hf) (by simp [Value.oneCell'])
  simp only [Nat.add_zero] at hst
  unfold ClS
  simp [Builtin.clear_, run_underlying Tryz.underlying204, hv, hzc, hst]
theorem putL_len : ∀ (us : List Value) (xs : List Value) (o : Nat), (putL xs o us).length = xs.length
  | [], _, _ => rfl
  | u :: us, xs, o => by unfold putL; rw [putL_len us]; simp
theorem putL_take : ∀ (us xs : List Value) (o m : Nat), m ≤ o → (putL xs o us).take m = xs.take m
  | [], _, _, _, _ => rfl
  | u :: us, xs, o, m, h => by
    unfold putL
    rw [putL_take us _ _ _ (by omega), List.take_set_of_le (by omega)]

attribute [local go_sem ↓] appS_eq clS_eq
set_option maxRecDepth 100000 in
set_option maxHeartbeats 800000 in
theorem delete_any (w : World) (B qb qc k : Nat) (l : List Wt) (hown : w.ownsRow B 209 3 (.slice (some ⟨qb, 0, none⟩) l.length qc) l.length (waitV l)) (hl : l.length ≤ 3) (hk : k < l.length) :
    Calls Tryz.prog 149 #[.slice (some ⟨qb, 0, none⟩) l.length qc, .int .i64 (k : Int), .int .i64 ((k : Int) + 1)] w fun e w' => e = .returned (.slice (some ⟨qb, 0, none⟩) (l.length - 1) qc) ∧ w'.ownsRow B 209 3 (.slice (some ⟨qb, 0, none⟩) (l.length - 1) qc) (l.length - 1) (waitV (l.eraseIdx k)) ∧ w.grownBy w' (some qb) := by
  have hqc : l.length ≤ qc := by
    rcases hown.2 with ⟨h0, _⟩ | ⟨g', cap', cur, hv', _, _, h5, _⟩
    · simp at h0
    · simp only [Value.slice.injEq, Option.some.injEq, Addr.mk.injEq, and_true] at hv'
      rw [hv'.2.2]; exact h5
  have hcut := waitV_cut hl hk
  have hwl := waitV_len l
  obtain ⟨m, hn⟩ : ∃ m, l.length = m + 1 := ⟨l.length - 1, by omega⟩
  rw [hn] at hown hqc hl hk hcut hwl ⊢
  simp only [Nat.add_sub_cancel] at hcut ⊢
  obtain ⟨vs, hvs⟩ : ∃ vs, vs = (waitV l).drop ((k + 1) * 3) := ⟨_, rfl⟩
  have hvl : vs.length = (m - k) * 3 := by rw [hvs, List.length_drop, hwl]; omega
  have hqb : (Value.slice (some ⟨qb, 0, none⟩) (m + 1) qc).ownBlock = some qb := rfl
  have hcell : ∀ (W : World), W.heap = w.heap → ∀ j, j < (m + 1) * 3 → ∃ u, (waitV l)[j]? = some u ∧ W.cell? ⟨qb, j, none⟩ = some u := fun W e j hj => by
    have hj' : j < (waitV l).length := by rw [hwl]; exact hj
    exact ⟨_, List.getElem?_eq_getElem hj', (World.cell?_of_block (by rw [e])).trans (fam_cell hown hqb (List.getElem?_eq_getElem hj'))⟩
  have hone : ∀ u ∈ vs, u.oneCell' = true := fun u hu => by
    rw [hvs] at hu
    have := List.mem_of_mem_drop hu
    unfold waitV rows3 at this
    rw [List.mem_map] at this
    obtain ⟨j, _, rfl⟩ := this
    exact waitC_one _ _
  obtain ⟨i, hi, hz0, hz1, hz2⟩ := info_is infoStore
  have hrun : ∀ W a2 c2, W.heap = w.heap → (0 < m - k → a2 = ⟨qb, (k + 1) * 3, none⟩) → (AppS #[204, 204] 204 #[.slice (some ⟨qb, 0, none⟩) k qc, .slice (some a2) (m - k) c2]).run Tryz.prog W = .ok (.slice (some ⟨qb, 0, none⟩) m qc) (W.setCells qb (k * 3) vs) := fun W a2 c2 e ha2 => by
    have hsrc : Src Tryz.prog i.size 204 (.slice (some a2) (m - k) c2) (m - k) vs W := by
      rw [hz1]
      refine Src.ofSlice W Tryz.underlying204 a2 _ c2 _ hvl (fun j u hu => ?_) hone
      have hj : j < (m - k) * 3 := by
        rcases Nat.lt_or_ge j ((m - k) * 3) with h | h
        · exact h
        · rw [List.getElem?_eq_none (by rw [hvl]; exact h)] at hu; cases hu
      rw [hvs, List.getElem?_drop] at hu
      have hadd : (⟨qb, (k + 1) * 3, none⟩ : Addr).add j = ⟨qb, (k + 1) * 3 + j, none⟩ := by unfold Addr.add; split <;> simp_all
      rw [ha2 (by omega), hadd]
      obtain ⟨u', g1, g2⟩ := hcell W e ((k + 1) * 3 + j) (by omega)
      rw [hu] at g1
      rw [g2, g1]
    have := run_append_room_src W 204 204 204 209 i Tryz.underlying204 hi qb 0 k qc (.slice (some a2) (m - k) c2) (m - k) _ hsrc (by omega) (fun j hj => by
      rw [hvl] at hj
      obtain ⟨u', _, g2⟩ := hcell W e (0 + k * i.size + j) (by rw [hz1]; omega)
      rw [g2]; rfl) (fun j hj => (World.frozen?_of_block (by rw [e])).trans (fam_frozen hown hqb _))
    rw [hz1, Nat.zero_add, show k + (m - k) = m by omega] at this
    exact this
  have hr1 : (AppS #[204, 204] 204 #[.slice (some ⟨qb, 0, none⟩) k qc, .slice (if qc = k + 1 then some ⟨qb, 0, none⟩ else some ⟨qb, (k + 1) * 3, none⟩) (m - k) (qc - (k + 1))]).run Tryz.prog w.drew = .ok (.slice (some ⟨qb, 0, none⟩) m qc) (w.drew.setCells qb (k * 3) vs) := by
    split
    · exact hrun w.drew ⟨qb, 0, none⟩ _ rfl (fun h => by omega)
    · exact hrun w.drew ⟨qb, (k + 1) * 3, none⟩ _ rfl (fun _ => rfl)
  have hown1 : (w.drew.setCells qb (k * 3) vs).ownsRow B 209 3 (.slice (some ⟨qb, 0, none⟩) (m + 1) qc) (m + 1) (putL (waitV l) (k * 3) vs) := fam_puts hqb vs (k * 3) w.drew _ (fam_keeps hown (fun _ _ => rfl))
  have hcl := fun W (e : W.heap = (w.drew.setCells qb (k * 3) vs).heap) => run_clear_store W 0 qb (m * 3) (qc - m) (fun j hj => by
      have hj' : m * 3 + j < (putL (waitV l) (k * 3) vs).length := by rw [putL_len, hwl]; omega
      rw [(World.cell?_of_block (by rw [e])).trans (fam_cell hown1 hqb (List.getElem?_eq_getElem hj'))]; rfl) (fun j hj => (World.frozen?_of_block (by rw [e])).trans (fam_frozen hown1 hqb _))
  have hc0 := hcl _ rfl
  have hc1 := hcl (w.drew.setCells qb (k * 3) vs).drew rfl
  have HF : Hid (∀ W, W.heap = ((w.drew.setCells qb (k * 3) vs).setCells qb (m * 3) [.bool false, .int .i64 0, .int .i64 0]).heap → W.os = w.os → W.tape = w.tape → W.output = w.output → W.ownsRow B 209 3 (.slice (some ⟨qb, 0, none⟩) m qc) m (waitV (l.eraseIdx k)) ∧ w.grownBy W (some qb)) := fun W e e1 e2 e3 => by
    have hown2 := fam_puts hqb [.bool false, .int .i64 0, .int .i64 0] (m * 3) _ _ hown1
    have hsh := fam_shrink hown2 (m := m) (by omega)
    rw [putL_take _ _ _ _ (Nat.le_refl _), hvs, hcut] at hsh
    refine ⟨fam_keeps hsh (fun g _ => by rw [e, hvs]), ⟨e1, e2, e3, ?_, fun j hj hne => ?_⟩⟩
    · rw [e]
      have h1 := (grown_puts qb vs (k * 3) w.drew).size
      have h2 := (grown_puts qb [.bool false, .int .i64 0, .int .i64 0] (m * 3) (w.drew.setCells qb (k * 3) vs)).size
      exact Nat.le_trans h1 h2
    · have h1 := (grown_puts qb vs (k * 3) w.drew)
      have h2 := (grown_puts qb [.bool false, .int .i64 0, .int .i64 0] (m * 3) (w.drew.setCells qb (k * 3) vs))
      rw [e]
      exact (h2.block j (Nat.lt_of_lt_of_le hj h1.size) hne).trans (h1.block j hj hne)
  have HG : Hid (∀ vs o (W : World), (W.setCells qb o vs).os = W.os ∧ (W.setCells qb o vs).tape = W.tape ∧ (W.setCells qb o vs).output = W.output) := fun vs o W => ⟨(grown_puts qb vs o W).os, (grown_puts qb vs o W).tape, (grown_puts qb vs o W).output⟩
  have hkk : ¬ (k : Int) = (k : Int) + 1 := by omega
  clear hown hcut hwl hvs hvl hqb hcell hone hi hz0 hz1 hz2 hrun hown1 hcl hn
  go_enter Tryz.func149, Tryz.ntmps149
  go_wp2
  go_region
  all_goals go_wp2
  all_goals go_ret
  all_goals have hf := HF.out _ rfl ((HG.out _ _ _).1.trans ((HG.out _ _ _).1.trans rfl)) ((HG.out _ _ _).2.1.trans ((HG.out _ _ _).2.1.trans rfl)) ((HG.out _ _ _).2.2.trans ((HG.out _ _ _).2.2.trans rfl))
  all_goals first | exact ⟨rfl, hf⟩ | (simp only [‹qc = k + 1›] at hf; exact ⟨rfl, hf⟩)
end

section
open Go.RowKit Go.Shelf

attribute [local go_sem] Oper.semAt_some

/-- One that waits, with its place. -/
abbrev PW := Nat × Wt
def pwV (x : PW) : Array Value := #[.int .i64 (x.1 : Int), .agg #[.bool x.2.lk, .int .i64 x.2.wh, .int .i64 x.2.what]]
/-- What has come when k rounds are over, from behind. -/
def backTo (l : List Wt) (k : Nat) : List PW := (List.range k).map fun j => (l.length - 1 - j, l.getD (l.length - 1 - j) default)
theorem backTo_succ (l : List Wt) (k : Nat) : backTo l (k + 1) = backTo l k ++ [(l.length - 1 - k, l.getD (l.length - 1 - k) default)] := by simp [backTo, List.range_succ]
theorem backTo_length (l : List Wt) (k : Nat) : (backTo l k).length = k := by simp [backTo]

set_option maxRecDepth 100000 in
set_option maxHeartbeats 2000000 in
theorem back1_in (F : Fence) (n : Nat) (hF : F.fn 156) (hro : F.round = none) (hn : 1 ≤ n) (lp Bs n₀ : Nat) (qa : Option Addr) (qc : Nat) (l : List Wt) (hl : l.length ≤ 3) (J Jx : List PW → World → Prop)
    (hY : ∀ pre x W, J pre W → pre.length < l.length → YieldAt F (n - 1) Tryz.prog lp (pwV x) W fun e W' =>
      (e = .returned (.bool true) ∧ J (pre ++ [x]) W' ∧ Below n₀ W W') ∨ (e = .returned (.bool false) ∧ Jx (pre ++ [x]) W'))
    (W : World) (hBs : W.cell? ⟨Bs, 0, none⟩ = some (.slice qa l.length qc)) (hBn : Bs < n₀) (hc : WIn W qa l) (hq : ∀ b o, qa = some ⟨b, o, none⟩ → 0 < l.length → b < n₀) (h0 : J [] W) :
    CallsIn F n Tryz.prog 156 #[.func (.yield lp) #[] #[], .pointer (some ⟨Bs, 0, none⟩)] W fun e W' => (∃ v, e = .returned v) ∧
      ((∃ ys, ys = backTo l l.length ∧ J ys W') ∨ (∃ pre, (∃ k, k ≤ l.length ∧ pre = backTo l k) ∧ Jx pre W')) := by
  obtain ⟨len, hlen⟩ : ∃ len, l.length = len := ⟨_, rfl⟩
  refine callsIn_of_wp Tryz.func156 rfl hF ?_ hro
  simp only [Tryz.ntmps156, List.size_toArray, List.length_cons, List.length_nil, Nat.reduceAdd, Nat.reduceSub, Array.replicate_succ, Array.replicate_zero, List.push_toArray, List.append_toArray, List.nil_append, List.cons_append]
  rw [hlen] at hBs hl
  gi_wp2
  gi_loopw [3] (fun i wr => ∃ k : Nat, k ≤ len ∧ i = .int .i64 ((len : Int) - 1 - (k : Int)) ∧ J (backTo l k) wr ∧ Below n₀ W wr) (fun i _ => (intOf i + 1).toNat)
  case atStart => exact ⟨0, Nat.zero_le _, by simp, h0, Below.refl _ _⟩
  case round =>
    obtain ⟨k, hk, rfl, hJs, hnx⟩ := hrel
    have hbx : wr.cell? ⟨Bs, 0, none⟩ = some (.slice qa len qc) := (hnx.cell (p := ⟨Bs, 0, none⟩) hBn).trans hBs
    by_cases hlt : k < len
    · obtain ⟨p, hp⟩ : ∃ p : Nat, (len : Int) - 1 - (k : Int) = (p : Int) := ⟨len - 1 - k, by omega⟩
      have hpl : p < len := by omega
      have hpe : l.length - 1 - k = p := by omega
      obtain ⟨b, o, rfl, c0, c1, c2⟩ := hc p (by omega)
      have hb := hq b o rfl (by omega)
      obtain ⟨y, hy0⟩ : ∃ y, l.getD p default = y := ⟨_, rfl⟩
      obtain ⟨fn, tmps, assign, body, hy, hR⟩ := hY (backTo l k) (p, y) wr hJs (by rw [backTo_length]; omega)
      have hbk : backTo l (k + 1) = backTo l k ++ [(p, y)] := by rw [backTo_succ, hpe, hy0]
      rw [hy0] at c0 c1 c2
      have d0 := (hnx.cell (p := ⟨b, o + p * 3, none⟩) hb).trans c0
      have d1 := (hnx.cell (p := ⟨b, o + p * 3 + 1, none⟩) hb).trans c1
      have d2 := (hnx.cell (p := ⟨b, o + p * 3 + 2, none⟩) hb).trans c2
      obtain ⟨lk', wh', what'⟩ := y
      simp only [pwV] at hy d0 d1 d2
      rw [hp]
      gi_wp2
      refine hR.mono ?_
      rintro e W3 (⟨rfl, hJ3, hk3⟩ | ⟨rfl, hJx3⟩)
      · gi_wp2
        go_roundw
        case rel => exact ⟨k + 1, by omega, by rw [← hp]; simp <;> omega, by rw [hbk]; exact hJ3, hnx.trans hk3⟩
        case measure => first | (simp [intOf]; done) | (simp [intOf]; omega)
      · gi_wp2
        refine bodyPost_ret (results_none rfl _ _ _) rfl ?_
        exact ⟨⟨_, rfl⟩, .inr ⟨_, ⟨k + 1, by omega, hbk.symm⟩, hJx3⟩⟩
    · obtain rfl : k = len := by omega
      have hneg : (k : Int) - 1 - (k : Int) = -1 := by omega
      rw [hneg]
      gi_wp2
      go_end0
      exact ⟨⟨_, rfl⟩, .inl ⟨_, by rw [hlen], hJs⟩⟩
end

end Go.Proofs.YtelckcpjmekgcadGreatDoor
