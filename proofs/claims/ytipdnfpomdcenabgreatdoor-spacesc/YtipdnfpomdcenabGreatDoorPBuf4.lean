/-
  The memory with buffers: a lock waits to become free; one that waits is done.
  The memory with buffers: one that waits is taken out.
  The memory with buffers: one that waits is done.
-/
import Derived.Test.YtipdnfpomdcenabGreatDoorPBuf
import Derived.Deep.RegionHeld3
import Derived.Lib.SliceRun
import Derived.Deep.RegionHeld
namespace Go.Proofs.YtipdnfpomdcenabGreatDoor
section
open Go.RowKit

theorem QSt.bwin {w : World} {B : Nat} {Q : Cd} {sb mb : Nat} {v : Rp → Value} {s : Sx} (h : QSt w B Q sb mb v s) (hb : Q.K.bf = true) {t : Nat} {a : Option Addr} {c : Nat} (hv : v (.buf t) = .slice a (thOf s t).wait.length c) : WIn w a (thOf s t).wait := fun i hi => by
  have hown := h.bufO hb t
  obtain ⟨g, cap, h1, h2, _, _⟩ := fam_block hown (by omega)
  rw [hv] at h1
  simp only [Value.slice.injEq] at h1
  have hc : ∀ j, j < 3 → w.cell? ⟨g, i * 3 + j, none⟩ = some (waitC ((thOf s t).wait.getD i default) j) := fun j hj => fam_cell hown h2 (by unfold waitV; exact rows3_get hi hj)
  exact ⟨g, 0, h1.1, by simpa [waitC] using hc 0 (by omega), by simpa [waitC] using hc 1 (by omega), by simpa [waitC] using hc 2 (by omega)⟩
/-- Whether a lock waits to become free: all that does says nothing besides. -/
theorem frees_any {l : List Wt} (hz : ∀ x, x ∈ l → x.lk = true → x.what = 0) (a : Int) : decide ((⟨true, a, 0⟩ : Wt) ∈ l) = l.any fun z => z.lk && decide (z.wh = a) := by
  rw [Bool.eq_iff_iff]
  simp only [decide_eq_true_eq, List.any_eq_true, Bool.and_eq_true]
  constructor
  · intro h
    exact ⟨_, h, rfl, rfl⟩
  · rintro ⟨x, hx, h1, h2⟩
    have h3 := hz x hx h1
    obtain ⟨lk, wh, what⟩ := x
    simp only at h1 h2 h3
    subst h1 h2 h3
    exact hx

set_option maxRecDepth 100000 in
set_option maxHeartbeats 1600000 in
theorem bunlock_any (w : World) (B : Nat) (Q : Cd) (sb mb : Nat) (v : Rp → Value) (s : Sx) (t x : Nat) (hK : Q.K = bufK) (hp : MPre w B Q sb mb v s t) (hx : x < s.own.length) (b : Bool) (hb2 : ((thOf s t).wait.any fun z => z.lk && decide (z.wh = (x : Int))) = b) (hown : Bool) (ho : decide (s.own.getD x 0 = (t : Int)) = hown) (hroom : hown = true → b = false → (thOf s t).wait.length < 3) :
    Calls Tryz.prog 189 #[.pointer (some ⟨Q.bb, 0, none⟩), .int .i64 t, .int .i64 x] w fun e w' => (hown = true ∧ b = false → ChgQ B Q sb mb v w (storeW 1 s t ⟨true, x, 0⟩) (.bool true) e w') ∧ (hown = false ∨ b = true → e = .returned (.bool false) ∧ Below w.heap.size w w') := by
  have hb := buf_bf hK
  have hs := hp.hs
  have hnt := hp.hn
  have htl := hp.ht
  have hw3 := hp.hw
  have hn4 := hp.h4
  obtain ⟨lb, lc, hlv, hlb, hllb⟩ := hs.bufsB hb (by omega)
  obtain ⟨qa, qc, hq⟩ := hs.bufV hb t
  have b0 := hs.b0 hb
  have b1 := hs.b1 hb
  rw [hlv] at b1
  have bq := hs.bufc hb hlb (t := t) (by omega)
  rw [hq] at bq
  have HHO : Hid (∀ W, Below w.heap.size w W → Calls Tryz.prog 182 #[.pointer (some ⟨mb, 0, none⟩), .int .i64 t, .int .i64 x] W fun e w' => e = .returned (.bool hown) ∧ W = w') := fun W h => by
    have := holds_any W B Q sb mb v s t x (hs.below h) hp.hl hx
    rwa [ho] at this
  have HCO : Hid (∀ W, Below w.heap.size w W → Calls Tryz.prog 196 #[.slice qa (thOf s t).wait.length qc, .agg #[.bool true, .int .i64 (x : Int), .int .i64 0]] W fun e w' => e = .returned (.bool b) ∧ Below W.heap.size W w') := fun W h => by
    have := scontains_any W qa qc (thOf s t).wait ⟨true, x, 0⟩ ((hs.bwin hb hq).below h) (by omega)
    rwa [frees_any (fun y hy => (hp.hok y hy).2), hb2] at this
  have HPU : Hid (hown = true → b = false → ∀ W, Below w.heap.size w W → Calls Tryz.prog 194 #[.pointer (some ⟨Q.bb, 0, none⟩), .int .i64 t, .agg #[.bool true, .int .i64 (x : Int), .int .i64 0]] W (ChgQ B Q sb mb v w (storeW 1 s t ⟨true, x, 0⟩) (.tuple #[]))) := fun h1 h2 W h => (put_any W B Q sb mb v s t ⟨true, x, 0⟩ hK (hp.below h) (hroom h1 h2)).mono fun e w' ⟨g1, v', g2, g3, g4⟩ => ⟨g1, v', g2, (Moved.of_below h).trans g3, g4⟩
  have hBel : ∀ o, Below w.heap.size w (w.alloc o) := fun o => (Below.refl _ _).alloc (Nat.le_refl _) _
  obtain ⟨n, hn⟩ : ∃ m, Q.nt = m := ⟨_, rfl⟩
  rw [hn] at b1 hnt
  have htn : t < n := by omega
  have hn44 : n ≤ 4 := by omega
  obtain ⟨k, hk⟩ : ∃ m, (thOf s t).wait.length = m := ⟨_, rfl⟩
  rw [hk] at bq HCO hw3
  have d0 := cell_up b0
  have d1 := cell_up b1
  have dq := cell_up bq
  have lbb : Q.bb < w.heap.size := lt_of_cell b0
  have HBEL := Hid.out (p := Hid _) hBel
  have hO : ∀ i u, (#[Value.bool true, .int .i64 (x : Int), .int .i64 0] : Array Value)[i]? = some u → (w.alloc (.cells #[.bool true, .int .i64 (x : Int), .int .i64 0] 256)).cell? ⟨w.heap.size, i, none⟩ = some u := fun i u h => by rw [World.cell?_alloc_new, h]
  have o0 : (w.alloc (.cells #[.bool true, .int .i64 (x : Int), .int .i64 0] 256)).cell? ⟨w.heap.size, 0, none⟩ = some (.bool true) := hO 0 _ rfl
  have o1 : (w.alloc (.cells #[.bool true, .int .i64 (x : Int), .int .i64 0] 256)).cell? ⟨w.heap.size, 1, none⟩ = some (.int .i64 (x : Int)) := hO 1 _ rfl
  have o2 : (w.alloc (.cells #[.bool true, .int .i64 (x : Int), .int .i64 0] 256)).cell? ⟨w.heap.size, 2, none⟩ = some (.int .i64 0) := hO 2 _ rfl
  have e0 := d0 (.cells #[.bool true, .int .i64 (x : Int), .int .i64 0] 256)
  have e1 := d1 (.cells #[.bool true, .int .i64 (x : Int), .int .i64 0] 256)
  have eq := dq (.cells #[.bool true, .int .i64 (x : Int), .int .i64 0] 256)
  clear hp hs hlv hlb hq hn hk hnt htl hn4 hb2 ho hroom hBel hO
  go_enter Tryz.func189, Tryz.ntmps189
  go_wp2_with fail
  cases hown with
  | false =>
    go_quiet ((go_at_call 182; refine Calls.mono (HHO.out _ (below_drewN (HBEL.out _))) ?_; rintro e w4 ⟨rfl, rfl⟩; exact ⟨rfl, _, rfl⟩))
    go_wp2
    go_ret
    first | exact ⟨rfl, below_drewN (HBEL.out _)⟩ | exact ⟨fun h => absurd h.1 (by decide), fun _ => ⟨rfl, below_drewN (HBEL.out _)⟩⟩
  | true =>
    go_region_held3 (fun w' => w'.cell? ⟨Q.bb, 0, none⟩ = some (.pointer (some ⟨mb, 0, none⟩)) ∧ w'.cell? ⟨Q.bb, 1, none⟩ = some (.slice (some ⟨lb, 0, none⟩) n lc) ∧ w'.cell? ⟨lb, t, none⟩ = some (.slice qa k qc) ∧ w'.cell? ⟨w.heap.size, 0, none⟩ = some (.bool true) ∧ w'.cell? ⟨w.heap.size, 1, none⟩ = some (.int .i64 (x : Int)) ∧ w'.cell? ⟨w.heap.size, 2, none⟩ = some (.int .i64 0)) (refine ⟨?_, ?_, ?_, ?_, ?_, ?_⟩ <;> (first | assumption | (refine cell_drew ?_; assumption))) (first | (go_at_call 182; refine Calls.mono (HHO.out _ (by repeat (first | exact HBEL.out _ | refine Below.drew ?_))) ?_; rintro e w4 ⟨rfl, rfl⟩) | (go_at_call 196; refine Calls.mono (HCO.out _ (by repeat (first | exact HBEL.out _ | refine Below.drew ?_))) ?_; rintro e w5 ⟨rfl, hb5⟩; have z0 := (hb5.cell (p := ⟨Q.bb, 0, none⟩) (lt_of_cell e0)).trans e0; have z1 := (hb5.cell (p := ⟨Q.bb, 1, none⟩) (lt_of_cell e1)).trans e1; have zq := (hb5.cell (p := ⟨lb, t, none⟩) (lt_of_cell eq)).trans eq; have y0 := (hb5.cell (p := ⟨w.heap.size, 0, none⟩) (lt_of_cell o0)).trans o0; have y1 := (hb5.cell (p := ⟨w.heap.size, 1, none⟩) (lt_of_cell o1)).trans o1; have y2 := (hb5.cell (p := ⟨w.heap.size, 2, none⟩) (lt_of_cell o2)).trans o2; have HB5 : Hid (Below w.heap.size w w5) := (HBEL.out (.cells #[.bool true, .int .i64 (x : Int), .int .i64 0] 256)).drew.trans (hb5.mono (by show _ ≤ (w.alloc (.cells #[.bool true, .int .i64 (x : Int), .int .i64 0] 256)).heap.size; simp)); clear hb5))
    all_goals cases b with
    | true =>
      go_wp2
      go_ret
      first | exact ⟨rfl, HB5.out⟩ | exact ⟨fun h => absurd h.2 (by decide), fun _ => ⟨rfl, HB5.out⟩⟩
    | false =>
      go_wp2_with fail
      refine Calls.mono (HPU.out (by trivial) (by trivial) w5 HB5.out) ?_
      rintro e w6 ⟨rfl, h6⟩
      go_wp2_with fail
      go_ret
      first | exact ⟨rfl, h6⟩ | exact ⟨fun _ => ⟨rfl, h6⟩, fun h => absurd h (by decide)⟩
end

section
open Go.RowKit

/-- A clearing's run, kept whole. -/
def ClS (ts : Array TypeId) (ty : TypeId) (args : Array Value) : Sem Value := Builtin.clear_ ts ty args
theorem clS_eq (ts : Array TypeId) (ty : TypeId) (args : Array Value) : Builtin.clear_ ts ty args = ClS ts ty args := rfl
theorem run_clear_store (W : World) (ty : TypeId) (b o c : Nat) (hc : ∀ j, j < 3 → (W.cell? ⟨b, o + j, none⟩).isSome = true) (hf : ∀ j, j < 3 → W.frozen? ⟨b, o + j, none⟩ = false) :
    (ClS #[251] ty #[.slice (some ⟨b, o, none⟩) 1 c]).run Tryz.prog W = .ok (.tuple #[]) (W.setCells b o [.bool false, .int .i64 0, .int .i64 0]) := by
  obtain ⟨i, hi, hz0, _, _⟩ := info_is infoStore
  have hv : ∀ w, (zeroValue 256).run Tryz.prog w = .ok (.agg #[.bool false, .int .i64 0, .int .i64 0]) w := fun w => by simp [zeroValue, typeInfo, hi, hz0]
  have hzc : (Builtin.zeroCells (Value.agg #[.bool false, .int .i64 0, .int .i64 0]).cells 1).toList = [.bool false, .int .i64 0, .int .i64 0] := by kernel_rfl
  have hst := run_storeCells_cells (P := Tryz.prog) b o [.bool false, .int .i64 0, .int .i64 0] 0 W (by simpa using hc) (by simpa using hf) (by simp [Value.oneCell'])
  simp only [Nat.add_zero] at hst
  unfold ClS
  simp [Builtin.clear_, run_underlying Tryz.underlying251, hv, hzc, hst]
theorem putL_len : ∀ (us : List Value) (xs : List Value) (o : Nat), (putL xs o us).length = xs.length
  | [], _, _ => rfl
  | u :: us, xs, o => by unfold putL; rw [putL_len us]; simp
theorem putL_take : ∀ (us xs : List Value) (o m : Nat), m ≤ o → (putL xs o us).take m = xs.take m
  | [], _, _, _, _ => rfl
  | u :: us, xs, o, m, h => by
    unfold putL
    rw [putL_take us _ _ _ (by omega), List.take_set_of_le (by omega)]

attribute [local go_sem ↓] appS_eq clS_eq
set_option maxRecDepth 100000 in
set_option maxHeartbeats 800000 in
theorem delete_any (w : World) (B qb qc k : Nat) (l : List Wt) (hown : w.ownsRow B 256 3 (.slice (some ⟨qb, 0, none⟩) l.length qc) l.length (waitV l)) (hl : l.length ≤ 3) (hk : k < l.length) :
    Calls Tryz.prog 192 #[.slice (some ⟨qb, 0, none⟩) l.length qc, .int .i64 (k : Int), .int .i64 ((k : Int) + 1)] w fun e w' => e = .returned (.slice (some ⟨qb, 0, none⟩) (l.length - 1) qc) ∧ w'.ownsRow B 256 3 (.slice (some ⟨qb, 0, none⟩) (l.length - 1) qc) (l.length - 1) (waitV (l.eraseIdx k)) ∧ w.grownBy w' (some qb) := by
  have hqc : l.length ≤ qc := by
    rcases hown.2 with ⟨h0, _⟩ | ⟨g', cap', cur, hv', _, _, h5, _⟩
    · simp at h0
    · simp only [Value.slice.injEq, Option.some.injEq, Addr.mk.injEq, and_true] at hv'
      rw [hv'.2.2]; exact h5
  have hcut := waitV_cut hl hk
  have hwl := waitV_len l
  obtain ⟨m, hn⟩ : ∃ m, l.length = m + 1 := ⟨l.length - 1, by omega⟩
  rw [hn] at hown hqc hl hk hcut hwl ⊢
  simp only [Nat.add_sub_cancel] at hcut ⊢
  obtain ⟨vs, hvs⟩ : ∃ vs, vs = (waitV l).drop ((k + 1) * 3) := ⟨_, rfl⟩
  have hvl : vs.length = (m - k) * 3 := by rw [hvs, List.length_drop, hwl]; omega
  have hqb : (Value.slice (some ⟨qb, 0, none⟩) (m + 1) qc).ownBlock = some qb := rfl
  have hcell : ∀ (W : World), W.heap = w.heap → ∀ j, j < (m + 1) * 3 → ∃ u, (waitV l)[j]? = some u ∧ W.cell? ⟨qb, j, none⟩ = some u := fun W e j hj => by
    have hj' : j < (waitV l).length := by rw [hwl]; exact hj
    exact ⟨_, List.getElem?_eq_getElem hj', (World.cell?_of_block (by rw [e])).trans (fam_cell hown hqb (List.getElem?_eq_getElem hj'))⟩
  have hone : ∀ u ∈ vs, u.oneCell' = true := fun u hu => by
    rw [hvs] at hu
    have := List.mem_of_mem_drop hu
    unfold waitV rows3 at this
    rw [List.mem_map] at this
    obtain ⟨j, _, rfl⟩ := this
    exact waitC_one _ _
  obtain ⟨i, hi, hz0, hz1, hz2⟩ := info_is infoStore
  have hrun : ∀ W a2 c2, W.heap = w.heap → (0 < m - k → a2 = ⟨qb, (k + 1) * 3, none⟩) → (AppS #[251, 251] 251 #[.slice (some ⟨qb, 0, none⟩) k qc, .slice (some a2) (m - k) c2]).run Tryz.prog W = .ok (.slice (some ⟨qb, 0, none⟩) m qc) (W.setCells qb (k * 3) vs) := fun W a2 c2 e ha2 => by
    have hsrc : Src Tryz.prog i.size 251 (.slice (some a2) (m - k) c2) (m - k) vs W := by
      rw [hz1]
      refine Src.ofSlice W Tryz.underlying251 a2 _ c2 _ hvl (fun j u hu => ?_) hone
      have hj : j < (m - k) * 3 := by
        rcases Nat.lt_or_ge j ((m - k) * 3) with h | h
        · exact h
        · rw [List.getElem?_eq_none (by rw [hvl]; exact h)] at hu; cases hu
      rw [hvs, List.getElem?_drop] at hu
      have hadd : (⟨qb, (k + 1) * 3, none⟩ : Addr).add j = ⟨qb, (k + 1) * 3 + j, none⟩ := by unfold Addr.add; split <;> simp_all
      rw [ha2 (by omega), hadd]
      obtain ⟨u', g1, g2⟩ := hcell W e ((k + 1) * 3 + j) (by omega)
      rw [hu] at g1
      rw [g2, g1]
    have := run_append_room_src W 251 251 251 256 i Tryz.underlying251 hi qb 0 k qc (.slice (some a2) (m - k) c2) (m - k) _ hsrc (by omega) (fun j hj => by
      rw [hvl] at hj
      obtain ⟨u', _, g2⟩ := hcell W e (0 + k * i.size + j) (by rw [hz1]; omega)
      rw [g2]; rfl) (fun j hj => (World.frozen?_of_block (by rw [e])).trans (fam_frozen hown hqb _))
    rw [hz1, Nat.zero_add, show k + (m - k) = m by omega] at this
    exact this
  have hr1 : (AppS #[251, 251] 251 #[.slice (some ⟨qb, 0, none⟩) k qc, .slice (if qc = k + 1 then some ⟨qb, 0, none⟩ else some ⟨qb, (k + 1) * 3, none⟩) (m - k) (qc - (k + 1))]).run Tryz.prog w.drew = .ok (.slice (some ⟨qb, 0, none⟩) m qc) (w.drew.setCells qb (k * 3) vs) := by
    split
    · exact hrun w.drew ⟨qb, 0, none⟩ _ rfl (fun h => by omega)
    · exact hrun w.drew ⟨qb, (k + 1) * 3, none⟩ _ rfl (fun _ => rfl)
  have hown1 : (w.drew.setCells qb (k * 3) vs).ownsRow B 256 3 (.slice (some ⟨qb, 0, none⟩) (m + 1) qc) (m + 1) (putL (waitV l) (k * 3) vs) := fam_puts hqb vs (k * 3) w.drew _ (fam_keeps hown (fun _ _ => rfl))
  have hcl := fun W (e : W.heap = (w.drew.setCells qb (k * 3) vs).heap) => run_clear_store W 0 qb (m * 3) (qc - m) (fun j hj => by
      have hj' : m * 3 + j < (putL (waitV l) (k * 3) vs).length := by rw [putL_len, hwl]; omega
      rw [(World.cell?_of_block (by rw [e])).trans (fam_cell hown1 hqb (List.getElem?_eq_getElem hj'))]; rfl) (fun j hj => (World.frozen?_of_block (by rw [e])).trans (fam_frozen hown1 hqb _))
  have hc0 := hcl _ rfl
  have hc1 := hcl (w.drew.setCells qb (k * 3) vs).drew rfl
  have HF : Hid (∀ W, W.heap = ((w.drew.setCells qb (k * 3) vs).setCells qb (m * 3) [.bool false, .int .i64 0, .int .i64 0]).heap → W.os = w.os → W.tape = w.tape → W.output = w.output → W.ownsRow B 256 3 (.slice (some ⟨qb, 0, none⟩) m qc) m (waitV (l.eraseIdx k)) ∧ w.grownBy W (some qb)) := fun W e e1 e2 e3 => by
    have hown2 := fam_puts hqb [.bool false, .int .i64 0, .int .i64 0] (m * 3) _ _ hown1
    have hsh := fam_shrink hown2 (m := m) (by omega)
    rw [putL_take _ _ _ _ (Nat.le_refl _), hvs, hcut] at hsh
    refine ⟨fam_keeps hsh (fun g _ => by rw [e, hvs]), ⟨e1, e2, e3, ?_, fun j hj hne => ?_⟩⟩
    · rw [e]
      have h1 := (grown_puts qb vs (k * 3) w.drew).size
      have h2 := (grown_puts qb [.bool false, .int .i64 0, .int .i64 0] (m * 3) (w.drew.setCells qb (k * 3) vs)).size
      exact Nat.le_trans h1 h2
    · have h1 := (grown_puts qb vs (k * 3) w.drew)
      have h2 := (grown_puts qb [.bool false, .int .i64 0, .int .i64 0] (m * 3) (w.drew.setCells qb (k * 3) vs))
      rw [e]
      exact (h2.block j (Nat.lt_of_lt_of_le hj h1.size) hne).trans (h1.block j hj hne)
  have HG : Hid (∀ vs o (W : World), (W.setCells qb o vs).os = W.os ∧ (W.setCells qb o vs).tape = W.tape ∧ (W.setCells qb o vs).output = W.output) := fun vs o W => ⟨(grown_puts qb vs o W).os, (grown_puts qb vs o W).tape, (grown_puts qb vs o W).output⟩
  have hkk : ¬ (k : Int) = (k : Int) + 1 := by omega
  clear hown hcut hwl hvs hvl hqb hcell hone hi hz0 hz1 hz2 hrun hown1 hcl hn
  go_enter Tryz.func192, Tryz.ntmps192
  go_wp2
  go_region
  all_goals go_wp2
  all_goals go_ret
  all_goals have hf := HF.out _ rfl ((HG.out _ _ _).1.trans ((HG.out _ _ _).1.trans rfl)) ((HG.out _ _ _).2.1.trans ((HG.out _ _ _).2.1.trans rfl)) ((HG.out _ _ _).2.2.trans ((HG.out _ _ _).2.2.trans rfl))
  all_goals first | exact ⟨rfl, hf⟩ | (simp only [‹qc = k + 1›] at hf; exact ⟨rfl, hf⟩)
end

section
open Go.RowKit

set_option maxRecDepth 100000 in
set_option maxHeartbeats 1600000 in
theorem bfinish_any (w : World) (B : Nat) (Q : Cd) (sb mb : Nat) (v : Rp → Value) (s : Sx) (X : Nat → Nat → Nat → Int) (t k : Nat) (hK : Q.K = bufK) (hp : MPre w B Q sb mb v s t) (hlo : ∀ x, x ∈ (thOf s t).wait → x.lk = true → s.own.getD x.wh.toNat 0 = (t : Int)) (hk : k < (thOf s t).wait.length) :
    Calls Tryz.prog 185 #[.pointer (some ⟨Q.bb, 0, none⟩), .int .i64 t, .int .i64 k] w (ChgQ B Q sb mb v w (doX X 1 s (8 * t + k + 1)) (.tuple #[])) := by
  have hb := buf_bf hK
  have hs := hp.hs
  have hnt := hp.hn
  have htl := hp.ht
  have hw3 := hp.hw
  have hn4 := hp.h4
  rw [doX_wait (by omega)]
  obtain ⟨lb, lc, hlv, hlb, hllb⟩ := hs.bufsB hb (by omega)
  obtain ⟨qb, qc, hq, hqb, hlqb⟩ : ∃ qb qc, v (.buf t) = .slice (some ⟨qb, 0, none⟩) (thOf s t).wait.length qc ∧ (v (.buf t)).ownBlock = some qb ∧ qb < w.heap.size := by
    obtain ⟨g, c, h1, h2, _, h4⟩ := fam_block (hs.bufO hb t) (by omega)
    exact ⟨g, c, h1, h2, h4⟩
  have b0 := hs.b0 hb
  have b1 := hs.b1 hb
  rw [hlv] at b1
  have bq := hs.bufc hb hlb (t := t) (by omega)
  rw [hq] at bq
  obtain ⟨b', o', e', x0, x1, x2⟩ := hs.bwin hb hq k hk
  simp only [Option.some.injEq, Addr.mk.injEq, and_true] at e'
  obtain ⟨rfl, rfl⟩ := e'
  simp only [Nat.zero_add] at x0 x1 x2
  obtain ⟨y, hy⟩ : ∃ y, (thOf s t).wait.getD k default = y := ⟨_, rfl⟩
  have hym : y ∈ (thOf s t).wait := mem_getD hk hy
  have hok := hp.hok y hym
  rw [hy] at x0 x1 x2 ⊢
  obtain ⟨n, hn⟩ : ∃ m, Q.nt = m := ⟨_, rfl⟩
  rw [hn] at b1 hnt
  have htn : t < n := by omega
  have hn44 : n ≤ 4 := by omega
  obtain ⟨nw, hnw⟩ : ∃ m, (thOf s t).wait.length = m := ⟨_, rfl⟩
  rw [hnw] at bq hw3 hk
  have lbb : Q.bb < w.heap.size := lt_of_cell b0
  have d0 := cell_up b0
  have d1 := cell_up b1
  have dq := cell_up bq
  obtain ⟨lk', hlk'⟩ : ∃ x, y.lk = x := ⟨_, rfl⟩
  obtain ⟨wh', hwh'⟩ : ∃ x, y.wh = x := ⟨_, rfl⟩
  obtain ⟨wt', hwt'⟩ : ∃ x, y.what = x := ⟨_, rfl⟩
  rw [hlk'] at x0
  rw [hwh'] at x1
  rw [hwt'] at x2
  have hD0 : QSt (w.alloc (.cells #[.bool lk', .int .i64 wh', .int .i64 wt'] 256)) B Q sb mb v s := hs.alloc _
  have hsty : Q.K.sty = 256 := by rw [hK]; rfl
  have hne1 : Q.bb ≠ qb := hs.fam.ne (hs.bbox hb) hqb (by simp)
  have hne2 : lb ≠ qb := hs.fam.ne hlb hqb (by simp)
  have hne3 : Q.bb ≠ lb := hs.fam.ne (hs.bbox hb) hlb (by simp)
  have hne4 : w.heap.size ≠ lb := by omega
  have hne5 : w.heap.size ≠ qb := by omega
  have HDEL : Hid (∀ W, W.heap = (w.alloc (.cells #[.bool lk', .int .i64 wh', .int .i64 wt'] 256)).heap → W.os = w.os → W.tape = w.tape → W.output = w.output → Calls Tryz.prog 192 #[.slice (some ⟨qb, 0, none⟩) nw qc, .int .i64 (k : Int), .int .i64 ((k : Int) + 1)] W fun e w3 => e = .returned (.slice (some ⟨qb, 0, none⟩) (nw - 1) qc) ∧ (w3.cell? ⟨Q.bb, 1, none⟩ = some (.slice (some ⟨lb, 0, none⟩) n lc) ∧ w3.cell? ⟨lb, t, none⟩ = some (.slice (some ⟨qb, 0, none⟩) nw qc) ∧ w3.frozen? ⟨lb, t, none⟩ = false) ∧
      (w3.cell? ⟨Q.bb, 0, none⟩ = some (.pointer (some ⟨mb, 0, none⟩)) ∧ w3.cell? ⟨w.heap.size, 0, none⟩ = some (.bool lk') ∧ w3.cell? ⟨w.heap.size, 1, none⟩ = some (.int .i64 wh') ∧ w3.cell? ⟨w.heap.size, 2, none⟩ = some (.int .i64 wt')) ∧
      Hid (∃ v1, QSt (w3.setCell ⟨lb, t, none⟩ (.slice (some ⟨qb, 0, none⟩) (nw - 1) qc)) B Q sb mb v1 (setTh s t { thOf s t with wait := (thOf s t).wait.eraseIdx k }) ∧ Moved w (w3.setCell ⟨lb, t, none⟩ (.slice (some ⟨qb, 0, none⟩) (nw - 1) qc)) v v1 ∧ v1 .st = v .st ∧ v1 .thr = v .thr ∧ v1 .prints = v .prints ∧ ∀ u, v1 (.regs u) = v (.regs u))) := fun W e e1 e2 e3 => by
    have hDW := hD0.same e
    have hown := hDW.bufO hb t
    rw [hsty, hq] at hown
    have hdel := delete_any W B qb qc k (thOf s t).wait hown (by omega) (by omega)
    rw [hnw] at hdel
    refine hdel.mono fun en w3 ⟨h1, h2, h3⟩ => ⟨h1, ?_, ?_, ?_⟩
    · have hz : W.heap.size = w.heap.size + 1 := by rw [e]; simp
      have k1 := h3.block Q.bb (by omega) (fun e => hne1 (by simpa using e))
      have k2 := h3.block lb (by omega) (fun e => hne2 (by simpa using e))
      refine ⟨(World.cell?_of_block k1).trans ?_, (World.cell?_of_block k2).trans ?_, (World.frozen?_of_block k2).trans (hDW.fam.frozen hlb t)⟩
      · exact (World.cell?_of_block (by rw [e])).trans (d1 _)
      · exact (World.cell?_of_block (by rw [e])).trans (dq _)
    · have hz : W.heap.size = w.heap.size + 1 := by rw [e]; simp
      have k1 := h3.block Q.bb (by omega) (fun e => hne1 (by simpa using e))
      have k2 := h3.block w.heap.size (by omega) (fun e => hne5 (by simpa using e))
      have hO : ∀ i u, (#[Value.bool lk', .int .i64 wh', .int .i64 wt'] : Array Value)[i]? = some u → w3.cell? ⟨w.heap.size, i, none⟩ = some u := fun i u h => (World.cell?_of_block k2).trans ((World.cell?_of_block (w := w.alloc (.cells #[.bool lk', .int .i64 wh', .int .i64 wt'] 256)) (by rw [e])).trans (by rw [World.cell?_alloc_new, h]))
      exact ⟨(World.cell?_of_block k1).trans ((World.cell?_of_block (by rw [e])).trans (d0 _)), hO 0 _ rfl, hO 1 _ rfl, hO 2 _ rfl⟩
    · have hel : ((thOf s t).wait.eraseIdx k).length = nw - 1 := by rw [List.length_eraseIdx, if_pos (by omega), hnw]
      rw [← hel, ← hsty] at h2
      have hMv : Moved w W v v := Moved.same ((Moved.refl w v).alloc (.cells #[.bool lk', .int .i64 wh', .int .i64 wt'] 256)) e e1 e2 e3
      have hN := hDW.newBuf hb hlb (by omega) (by omega) (H := W.heap.size) h2 (by rw [hqb]; exact h3) (Or.inl hqb) (Nat.le_refl _)
      have hMM := (hMv.grow (r := .buf t) (g := qb) (m := ((thOf s t).wait.eraseIdx k).length) (c := qc) (H := W.heap.size) (by rw [hqb]; exact h3) (Or.inl hqb) (Nat.le_refl _)).put (r := .bufs) (g := lb) (by rw [upd_ne _ _ (by simp)]; exact hlb) t (.slice (some ⟨qb, 0, none⟩) (nw - 1) qc)
      rw [hel] at hN hMM
      exact ⟨_, hN, hMM, upd_ne _ _ (by simp), upd_ne _ _ (by simp), upd_ne _ _ (by simp), fun u => upd_ne _ _ (by simp)⟩
  have HOW : Hid (lk' = true → 0 ≤ wh' ∧ wh' < (s.own.length : Int) ∧ s.own.getD wh'.toNat 0 = (t : Int)) := fun h => by
    have h1 := hok.1
    rw [hlk', hwh', if_pos h] at h1
    refine ⟨h1.1, h1.2, ?_⟩
    have := hlo y hym (by rw [hlk']; exact h)
    rwa [hwh'] at this
  have HWO : Hid (lk' = false → 0 ≤ wh' ∧ wh' < (s.words.length : Int)) := fun h => by
    have h1 := hok.1
    rw [hlk', hwh', if_neg (by rw [h]; decide)] at h1
    exact h1
  have HBD : Hid (s.words.length ≤ 64 ∧ s.own.length ≤ 4) := ⟨hp.hm, hp.hl⟩
  have HY : Hid (y = ⟨lk', wh', wt'⟩) := by cases y; simp only at hlk' hwh' hwt'; subst hlk' hwh' hwt'; rfl
  clear hp hs hlv hq hn hnw hnt htl hn4 hD0 hsty hlo hok hym hlk' hwh' hwt' hy
  go_enter Tryz.func185, Tryz.ntmps185
  go_wp2_with fail
  have e1 := d1 (.cells #[.bool lk', .int .i64 wh', .int .i64 wt'] 256)
  have eq := dq (.cells #[.bool lk', .int .i64 wh', .int .i64 wt'] 256)
  have hwk := IntWalk.i64_in ((k : Int) + 1) (by omega)
  have hfar : (⟨Q.bb, 1, none⟩ : Addr).block ≠ (⟨lb, t, none⟩ : Addr).block := hne3
  refine wp_region_held_drew (S := (fun w' : World => w'.cell? ⟨Q.bb, 1, none⟩ = some (.slice (some ⟨lb, 0, none⟩) n lc))) (by kernel_rfl) (by first | assumption | (refine cell_drew ?_; assumption) | (refine cell_far ?_ ?_ <;> assumption)) (fun hHeld => ?_)
  try simp only [Act.put, List.setIfInBounds_toArray, List.set_cons_zero, List.set_cons_succ, List.getElem_toArray, List.getElem_cons_succ, List.getElem_cons_zero]
  refine wpAnyH_take (i := 0) (v := .pointer (some ⟨Q.bb, 0, none⟩)) rfl (by kernel_rfl) (by kernel_rfl) (by kernel_rfl) (fun _ _ _ h => h) (Or.inl ⟨by rfl, by intro w hSw; first | (go_simp; done) | (go_simp; with_reducible rfl)⟩) (by assumption) ?_
  try simp only [Act.put, List.setIfInBounds_toArray, List.set_cons_zero, List.set_cons_succ, List.getElem_toArray, List.getElem_cons_zero]
  refine wpAnyH_take (i := 1) (v := .pointer (some ⟨Q.bb, 0, none⟩)) rfl (by kernel_rfl) (by kernel_rfl) (by kernel_rfl) (fun _ _ _ h => h) (Or.inl ⟨by rfl, by intro w hSw; first | (go_simp; done) | (go_simp; with_reducible rfl)⟩) (by assumption) ?_
  try simp only [Act.put, List.setIfInBounds_toArray, List.set_cons_zero, List.set_cons_succ, List.getElem_toArray, List.getElem_cons_succ, List.getElem_cons_zero]
  refine wpAnyH_take (i := 2) (v := .pointer (some ⟨Q.bb, 1, none⟩)) rfl (by kernel_rfl) (by kernel_rfl) (by kernel_rfl) (fun _ _ _ h => h) (Or.inl ⟨by rfl, by intro w hSw; first | (go_simp; done) | (go_simp; with_reducible rfl)⟩) (by assumption) ?_
  try simp only [Act.put, List.setIfInBounds_toArray, List.set_cons_zero, List.set_cons_succ, List.getElem_toArray, List.getElem_cons_succ, List.getElem_cons_zero]
  refine wpAnyH_take (i := 3) (v := .slice (some ⟨lb, 0, none⟩) n lc) rfl (by kernel_rfl) (by kernel_rfl) (by kernel_rfl) (fun _ _ _ h => h) (Or.inl ⟨by rfl, by intro w hSw; first | (go_simp; done) | (go_simp; with_reducible rfl)⟩) (by assumption) ?_
  try simp only [Act.put, List.setIfInBounds_toArray, List.set_cons_zero, List.set_cons_succ, List.getElem_toArray, List.getElem_cons_succ, List.getElem_cons_zero]
  refine wpAnyH_take (i := 4) (v := .int .i64 (t : Int)) rfl (by kernel_rfl) (by kernel_rfl) (by kernel_rfl) (fun _ _ _ h => h) (Or.inl ⟨by rfl, by intro w hSw; first | (go_simp; done) | (go_simp; with_reducible rfl)⟩) (by assumption) ?_
  try simp only [Act.put, List.setIfInBounds_toArray, List.set_cons_zero, List.set_cons_succ, List.getElem_toArray, List.getElem_cons_succ, List.getElem_cons_zero]
  refine wpAnyH_take (i := 5) (v := .pointer (some ⟨Q.bb, 0, none⟩)) rfl (by kernel_rfl) (by kernel_rfl) (by kernel_rfl) (fun _ _ _ h => h) (Or.inl ⟨by rfl, by intro w hSw; first | (go_simp; done) | (go_simp; with_reducible rfl)⟩) (by assumption) ?_
  try simp only [Act.put, List.setIfInBounds_toArray, List.set_cons_zero, List.set_cons_succ, List.getElem_toArray, List.getElem_cons_succ, List.getElem_cons_zero]
  refine wpAnyH_take (i := 6) (v := .pointer (some ⟨Q.bb, 0, none⟩)) rfl (by kernel_rfl) (by kernel_rfl) (by kernel_rfl) (fun _ _ _ h => h) (Or.inl ⟨by rfl, by intro w hSw; first | (go_simp; done) | (go_simp; with_reducible rfl)⟩) (by assumption) ?_
  try simp only [Act.put, List.setIfInBounds_toArray, List.set_cons_zero, List.set_cons_succ, List.getElem_toArray, List.getElem_cons_succ, List.getElem_cons_zero]
  refine wpAnyH_take (i := 7) (v := .pointer (some ⟨Q.bb, 1, none⟩)) rfl (by kernel_rfl) (by kernel_rfl) (by kernel_rfl) (fun _ _ _ h => h) (Or.inl ⟨by rfl, by intro w hSw; first | (go_simp; done) | (go_simp; with_reducible rfl)⟩) (by assumption) ?_
  try simp only [Act.put, List.setIfInBounds_toArray, List.set_cons_zero, List.set_cons_succ, List.getElem_toArray, List.getElem_cons_succ, List.getElem_cons_zero]
  refine wpAnyH_take (i := 8) (v := .slice (some ⟨lb, 0, none⟩) n lc) rfl (by kernel_rfl) (by kernel_rfl) (by kernel_rfl) (fun _ _ _ h => h) (Or.inl ⟨by rfl, by intro w hSw; first | (go_simp; done) | (go_simp; with_reducible rfl)⟩) (by assumption) ?_
  try simp only [Act.put, List.setIfInBounds_toArray, List.set_cons_zero, List.set_cons_succ, List.getElem_toArray, List.getElem_cons_succ, List.getElem_cons_zero]
  refine wpAnyH_take (i := 9) (v := .int .i64 (t : Int)) rfl (by kernel_rfl) (by kernel_rfl) (by kernel_rfl) (fun _ _ _ h => h) (Or.inl ⟨by rfl, by intro w hSw; first | (go_simp; done) | (go_simp; with_reducible rfl)⟩) (by assumption) ?_
  try simp only [Act.put, List.setIfInBounds_toArray, List.set_cons_zero, List.set_cons_succ, List.getElem_toArray, List.getElem_cons_succ, List.getElem_cons_zero]
  refine wpAnyH_take (i := 10) (v := .pointer (some ⟨lb, t, none⟩)) rfl (by kernel_rfl) (by kernel_rfl) (by kernel_rfl) (fun _ _ _ h => h) (Or.inl ⟨by rfl, by intro w hSw; first | (go_simp; done) | (go_simp; with_reducible rfl)⟩) (by assumption) ?_
  try simp only [Act.put, List.setIfInBounds_toArray, List.set_cons_zero, List.set_cons_succ, List.getElem_toArray, List.getElem_cons_succ, List.getElem_cons_zero]
  refine wpAnyH_take (i := 12) (v := .int .i64 (k : Int)) rfl (by kernel_rfl) (by kernel_rfl) (by kernel_rfl) (fun _ _ _ h => h) (Or.inl ⟨by rfl, by intro w hSw; first | (go_simp; done) | (go_simp; with_reducible rfl)⟩) (by assumption) ?_
  try simp only [Act.put, List.setIfInBounds_toArray, List.set_cons_zero, List.set_cons_succ, List.getElem_toArray, List.getElem_cons_succ, List.getElem_cons_zero]
  refine wpAnyH_take (i := 13) (v := .int .i64 (k : Int)) rfl (by kernel_rfl) (by kernel_rfl) (by kernel_rfl) (fun _ _ _ h => h) (Or.inl ⟨by rfl, by intro w hSw; first | (go_simp; done) | (go_simp; with_reducible rfl)⟩) (by assumption) ?_
  try simp only [Act.put, List.setIfInBounds_toArray, List.set_cons_zero, List.set_cons_succ, List.getElem_toArray, List.getElem_cons_succ, List.getElem_cons_zero]
  refine wpAnyH_take (i := 14) (v := .int .i64 ((k : Int) + 1)) rfl (by kernel_rfl) (by kernel_rfl) (by kernel_rfl) (fun _ _ _ h => h) (Or.inl ⟨by rfl, by intro w hSw; first | (go_simp; done) | (go_simp; exact hwk)⟩) (by assumption) ?_
  try simp only [Act.put, List.setIfInBounds_toArray, List.set_cons_zero, List.set_cons_succ, List.getElem_toArray, List.getElem_cons_succ, List.getElem_cons_zero]
  refine wpAnyH_ready (rs := [11]) (by kernel_rfl) (by simp) (AllReadyH.cons rfl (fun K hK => ?_) AllReadyH.nil)
  go_simp
  refine hK.out _ _ (by first | assumption | (refine cell_drew ?_; assumption) | (refine cell_far ?_ ?_ <;> assumption)) (fun hHeld => ?_)
  clear hK K
  try simp only [Act.put, List.setIfInBounds_toArray, List.set_cons_zero, List.set_cons_succ, List.getElem_toArray, List.getElem_cons_succ, List.getElem_cons_zero]
  refine wpAnyH_ready (rs := [15]) (by kernel_rfl) (by simp) (AllReadyH.cons rfl (fun K hK => ?_) AllReadyH.nil)
  go_simp
  refine Calls.mono (HDEL.out _ rfl rfl rfl rfl) ?_
  rintro e w3 ⟨rfl, ⟨g1, g2, g3⟩, ⟨f0, f1, f2, f3⟩, HV⟩
  go_wp2_with fail
  refine hK.out _ _ (by first | assumption | (refine cell_drew ?_; assumption) | (refine cell_far ?_ ?_ <;> assumption)) (fun hHeld => ?_)
  clear hK K
  try simp only [Act.put, List.setIfInBounds_toArray, List.set_cons_zero, List.set_cons_succ, List.getElem_toArray, List.getElem_cons_succ, List.getElem_cons_zero]
  refine wpAnyH_ready (rs := [16]) (by kernel_rfl) (by simp) (AllReadyH.cons rfl (fun K hK => ?_) AllReadyH.nil)
  go_simp
  refine hK.out _ _ (by first | assumption | (refine cell_drew ?_; assumption) | (refine cell_far ?_ ?_ <;> assumption)) (fun hHeld => ?_)
  clear hK K
  try simp only [Act.put, List.setIfInBounds_toArray, List.set_cons_zero, List.set_cons_succ, List.getElem_toArray, List.getElem_cons_succ, List.getElem_cons_zero]
  refine wpAnyH_ready (rs := [17]) (by kernel_rfl) (by simp) (AllReadyH.cons rfl (fun K hK => ?_) AllReadyH.nil)
  go_simp
  refine hK.out _ _ (by first | assumption | (refine cell_drew ?_; assumption) | (refine cell_far ?_ ?_ <;> assumption)) (fun hHeld => ?_)
  clear hK K
  try simp only [Act.put, List.setIfInBounds_toArray, List.set_cons_zero, List.set_cons_succ, List.getElem_toArray, List.getElem_cons_succ, List.getElem_cons_zero]
  refine wpAnyH_done (by kernel_rfl) ?_ _
  have z0 := cell_far (b := ⟨lb, t, none⟩) (u := .slice (some ⟨qb, 0, none⟩) (nw - 1) qc) f0 hne3
  have z1 := cell_far (b := ⟨lb, t, none⟩) (u := .slice (some ⟨qb, 0, none⟩) (nw - 1) qc) f1 hne4
  have z2 := cell_far (b := ⟨lb, t, none⟩) (u := .slice (some ⟨qb, 0, none⟩) (nw - 1) qc) f2 hne4
  have z3 := cell_far (b := ⟨lb, t, none⟩) (u := .slice (some ⟨qb, 0, none⟩) (nw - 1) qc) f3 hne4
  obtain ⟨W4, hW4⟩ : ∃ W, W = w3.setCell ⟨lb, t, none⟩ (.slice (some ⟨qb, 0, none⟩) (nw - 1) qc) := ⟨_, rfl⟩
  rw [← hW4] at z0 z1 z2 z3 HV ⊢
  clear hW4 f0 f1 f2 f3 g1 g2 g3 HDEL hHeld hwk hfar e1 eq d0 d1 dq x0 x1 x2 b0 b1 bq
  obtain ⟨v1, hQ1, hM1, m1, m2, m3, m4⟩ := HV.out
  have HQ1 := Hid.out (p := Hid _) (And.intro hQ1 (And.intro hM1 (And.intro m1 (And.intro m2 (And.intro m3 m4)))))
  clear HV hQ1 hM1 m1 m2 m3 m4
  cases lk' with
  | true =>
    obtain ⟨h1, h2, h3⟩ := HOW.out rfl
    obtain ⟨x, rfl, hx⟩ := toN ⟨h1, h2⟩
    simp only [Int.toNat_natCast] at h3
    have HC : Hid (∀ W, W.heap = W4.heap → W.os = W4.os → W.tape = W4.tape → W.output = W4.output → Calls Tryz.prog 178 #[.pointer (some ⟨mb, 0, none⟩), .int .i64 t, .int .i64 (x : Int)] W fun e w' => (∃ b, e = .returned (.bool b)) ∧ ChgQ B Q sb mb v w (setTh (doneW s y) t { thOf s t with wait := (thOf s t).wait.eraseIdx k }) (.tuple #[]) (.returned (.tuple #[])) w') := fun W e e1 e2 e3 => by
      obtain ⟨q1, q2, q3, q4, q5, q6⟩ := HQ1.out
      refine (punlock_yes W B Q sb mb v1 _ t x (q1.same e) HBD.out.2 hx h3).mono fun en w' ⟨g1, g2, g3⟩ => ⟨⟨_, g1⟩, rfl, v1, ?_, (Moved.same q2 e e1 e2 e3).trans g3, q3, q4, q5, q6⟩
      rw [HY.out]
      exact g2
    clear HOW HWO h1 h2 h3 hx
    go_wp2_with fail
    refine region_tail 8 (by kernel_rfl) (by kernel_rfl) ?_
    simp only [List.take_succ_cons, List.take_zero, List.drop_succ_cons, List.drop_zero]
    repeat still_step
    refine wpStill_nil ?_
    go_wp2_with fail
    refine Calls.mono (HC.out _ rfl rfl rfl rfl) ?_
    rintro e w5 ⟨⟨b, rfl⟩, h5⟩
    go_wp2_with fail
    go_end0
    exact h5
  | false =>
    obtain ⟨x, rfl, hx⟩ := toN (HWO.out rfl)
    have HC : Hid (∀ W, W.heap = W4.heap → W.os = W4.os → W.tape = W4.tape → W.output = W4.output → Calls Tryz.prog 175 #[.pointer (some ⟨mb, 0, none⟩), .int .i64 t, .int .i64 (x : Int), .int .i64 wt'] W (ChgQ B Q sb mb v w (setTh (doneW s y) t { thOf s t with wait := (thOf s t).wait.eraseIdx k }) (.tuple #[]))) := fun W e e1 e2 e3 => by
      obtain ⟨q1, q2, q3, q4, q5, q6⟩ := HQ1.out
      refine (pstore_any W B Q sb mb v1 _ t wt' x (q1.same e) HBD.out.1 hx).mono fun en w' ⟨g1, g2, g3⟩ => ⟨g1, v1, ?_, (Moved.same q2 e e1 e2 e3).trans g3, q3, q4, q5, q6⟩
      rw [HY.out]
      exact g2
    clear HOW HWO hx
    go_wp2_with fail
    refine region_tail 10 (by kernel_rfl) (by kernel_rfl) ?_
    simp only [List.take_succ_cons, List.take_zero, List.drop_succ_cons, List.drop_zero]
    repeat still_step
    refine wpStill_nil ?_
    go_wp2_with fail
    refine Calls.mono (HC.out _ rfl rfl rfl rfl) ?_
    rintro e w5 ⟨rfl, h5⟩
    go_wp2_with fail
    go_end0
    exact ⟨rfl, h5⟩
end

end Go.Proofs.YtipdnfpomdcenabGreatDoor
