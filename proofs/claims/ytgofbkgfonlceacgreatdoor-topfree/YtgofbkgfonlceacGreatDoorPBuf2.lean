/-
  The memory with buffers: what is put behind what waits; what waits is told; one that waits is taken out and done.
  The memory with buffers: whether a lock waits to become free; one that waits is taken out and done.
-/
import Derived.Test.YtgofbkgfonlceacGreatDoorPNew2
namespace Go.Proofs.YtgofbkgfonlceacGreatDoor
section
open Go.RowKit

theorem infoStore : (Tryz.prog.info? 267).map (fun i => (i.zero, i.size, i.bytes)) = some (some (.agg #[.bool false, .int .i64 0, .int .i64 0]), 3, 24) := by kernel_rfl

attribute [local go_sem ↓] appS_eq
set_option maxRecDepth 100000 in
set_option maxHeartbeats 1600000 in
theorem put_any (w : World) (B : Nat) (Q : Cd) (sb mb : Nat) (v : Rp → Value) (s : Sx) (t : Nat) (x : Wt) (hK : Q.K = bufK) (hp : MPre w B Q sb mb v s t) (hw : (thOf s t).wait.length < 3) :
    Calls Tryz.prog 202 #[.pointer (some ⟨Q.bb, 0, none⟩), .int .i64 t, .agg #[.bool x.lk, .int .i64 x.wh, .int .i64 x.what]] w (ChgQ B Q sb mb v w (storeW 1 s t x) (.tuple #[])) := by
  have hst : storeW 1 s t x = setTh s t { thOf s t with wait := (thOf s t).wait ++ [x] } := by unfold storeW; rw [if_pos (by omega)]
  rw [hst]
  have hb := buf_bf hK
  have hs := hp.hs
  have hnt := hp.hn
  have htl := hp.ht
  have hn4 := hp.h4
  have hB := hp.hB
  obtain ⟨lk, wh, what⟩ := x
  simp only
  obtain ⟨lb, lc, hlv, hlb, hllb⟩ := hs.bufsB hb (by omega)
  obtain ⟨qa, qc, hq⟩ := hs.bufV hb t
  have b1 := hs.b1 hb
  rw [hlv] at b1
  have bq := hs.bufc hb hlb (t := t) (by omega)
  rw [hq] at bq
  have bf := hs.fam.frozen hlb t
  have hsty : Q.K.sty = 267 := by rw [hK]; rfl
  have hbelow : Below w.heap.size w (w.alloc (.cells #[.bool lk, .int .i64 wh, .int .i64 what] 267)).drew := ((Below.refl _ _).alloc (Nat.le_refl _) _).drew
  have hown := hs.bufO hb t
  rw [hsty] at hown
  obtain ⟨g, cap, w3, hr1, hr2, hr3, hr4⟩ := app_row (T := 262) Tryz.underlying262 infoStore rfl (by omega) hown hbelow hB 1 #[.bool lk, .int .i64 wh, .int .i64 what] rfl (by simp [Value.oneCell']) (by omega) (by omega) (by omega)
  have hne1 : some Q.bb ≠ (v (.buf t)).ownBlock := fun e => absurd (hs.fam.apart _ _ Q.bb (hs.bbox hb) e.symm) (by simp)
  have hne2 : some lb ≠ (v (.buf t)).ownBlock := fun e => absurd (hs.fam.apart _ _ lb hlb e.symm) (by simp)
  have q1 := hr3.cell (cell_up2 b1 (.cells #[.bool lk, .int .i64 wh, .int .i64 what] 267) (.cells #[.bool lk, .int .i64 wh, .int .i64 what] 267)) hne1
  have qq := hr3.cell (cell_up2 bq (.cells #[.bool lk, .int .i64 wh, .int .i64 what] 267) (.cells #[.bool lk, .int .i64 wh, .int .i64 what] 267)) hne2
  have qf : w3.frozen? ⟨lb, t, none⟩ = false := (hr3.frozen_far ⟨lb, t, none⟩ (by simp; omega) hne2).trans (frozen_up2 hllb bf _ _)
  have hlen : ((thOf s t).wait ++ [(⟨lk, wh, what⟩ : Wt)]).length = (thOf s t).wait.length + 1 := by simp
  have hcells : waitV (thOf s t).wait ++ #[Value.bool lk, .int .i64 wh, .int .i64 what].toList = waitV ((thOf s t).wait ++ [⟨lk, wh, what⟩]) := by rw [waitV_snoc]
  rw [hcells] at hr2
  have hr2' : w3.ownsRow B Q.K.sty 3 (.slice (some ⟨g, 0, none⟩) ((thOf s t).wait ++ [(⟨lk, wh, what⟩ : Wt)]).length cap) ((thOf s t).wait ++ [(⟨lk, wh, what⟩ : Wt)]).length (waitV ((thOf s t).wait ++ [⟨lk, wh, what⟩])) := by rw [hlen, hsty]; exact hr2
  have hbel2 : Below w.heap.size w ((w.alloc (.cells #[.bool lk, .int .i64 wh, .int .i64 what] 267)).drew.alloc (.cells #[.bool lk, .int .i64 wh, .int .i64 what] 267)) := hbelow.alloc hbelow.size _
  have hD := (hs.below hbel2).newBuf hb hlb htl (by omega) hr2' hr3 hr4 (by simp)
  have hM := ((Moved.of_below (v := v) hbel2).grow (r := .buf t) (m := (thOf s t).wait.length + 1) (c := cap) hr3 hr4 (by simp)).put (r := .bufs) (g := lb) (by rw [upd_ne _ _ (by simp)]; exact hlb) t (.slice (some ⟨g, 0, none⟩) ((thOf s t).wait.length + 1) cap)
  rw [hlen] at hD
  have HF : Hid (ChgQ B Q sb mb v w (setTh s t { thOf s t with wait := (thOf s t).wait ++ [⟨lk, wh, what⟩] }) (.tuple #[]) (.returned (.tuple #[])) (w3.setCell ⟨lb, t, none⟩ (.slice (some ⟨g, 0, none⟩) ((thOf s t).wait.length + 1) cap))) := ⟨rfl, _, hD, hM, upd_ne _ _ (by simp), upd_ne _ _ (by simp), upd_ne _ _ (by simp), fun u => upd_ne _ _ (by simp)⟩
  have hrun : (AppS #[262, 262] 262 #[.slice qa (thOf s t).wait.length qc, .slice (some ⟨w.heap.size + 1, 0, none⟩) 1 1]).run Tryz.prog ((w.alloc (.cells #[.bool lk, .int .i64 wh, .int .i64 what] 267)).alloc (.cells #[.bool lk, .int .i64 wh, .int .i64 what] 267)).drew = .ok (.slice (some ⟨g, 0, none⟩) ((thOf s t).wait.length + 1) cap) w3 := by
    have e : (w.alloc (.cells #[.bool lk, .int .i64 wh, .int .i64 what] 267)).drew.heap.size = w.heap.size + 1 := by simp
    rw [hq, e] at hr1
    exact hr1
  have k1 := cell_up b1
  have kq := cell_up bq
  have k12 := cell_up2 b1
  have kq2 := cell_up2 bq
  obtain ⟨n, hn⟩ : ∃ m, Q.nt = m := ⟨_, rfl⟩
  rw [hn] at b1 k1 k12 q1 hnt
  have htn : t < n := by omega
  have hn44 : n ≤ 4 := by omega
  obtain ⟨k, hk⟩ : ∃ m, (thOf s t).wait.length = m := ⟨_, rfl⟩
  rw [hk] at bq kq kq2 qq hrun HF hw
  clear hp hs hst hlv hlb hq bf hbelow hown hr1 hr2 hr3 hr4 hne1 hne2 hlen hcells hr2' hbel2 hD hM hn hk hnt htl hn4
  go_enter Tryz.func202, Tryz.ntmps202
  go_wp2
  go_region
  all_goals go_wp2
  all_goals go_end0
  all_goals exact HF.out

set_option maxRecDepth 100000 in
set_option maxHeartbeats 1600000 in
theorem bstore_any (w : World) (B : Nat) (Q : Cd) (sb mb : Nat) (v : Rp → Value) (s : Sx) (t : Nat) (x y : Int) (hK : Q.K = bufK) (hp : MPre w B Q sb mb v s t) (hw : (thOf s t).wait.length < 3) :
    Calls Tryz.prog 195 #[.pointer (some ⟨Q.bb, 0, none⟩), .int .i64 t, .int .i64 x, .int .i64 y] w (ChgQ B Q sb mb v w (storeW 1 s t ⟨false, x, y⟩) (.tuple #[])) := by
  have HP := Hid.out (p := Hid _) (put_any w B Q sb mb v s t ⟨false, x, y⟩ hK hp hw)
  have lbb : Q.bb < w.heap.size := lt_of_cell (hp.hs.b1 (buf_bf hK))
  clear hp hw
  go_enter Tryz.func195, Tryz.ntmps195
  go_wp2_with fail
  refine Calls.mono HP.out ?_
  rintro e w1 ⟨rfl, h1⟩
  go_wp2_with fail
  go_end0
  exact ⟨rfl, h1⟩

set_option maxRecDepth 100000 in
set_option maxHeartbeats 1600000 in
theorem bwaiting_any (w : World) (B : Nat) (Q : Cd) (sb mb : Nat) (v : Rp → Value) (s : Sx) (t fid : Nat) (caps : Array Value) (I : Nat → World → Prop) (hK : Q.K = bufK) (kF : ∀ (xs : Array Value) (w : World), (callFunc fid xs).run Tryz.prog w = .ok (.enter fid xs) w) (hp : MPre w B Q sb mb v s t) (hI : ∀ j W k, I j W → I j (W.drewN k)) (h0 : I 0 w)
    (hC : ∀ j W, j < (placesW 1 (thOf s t).wait).length → I j W → Calls Tryz.prog fid (#[.int .i64 ((placesW 1 (thOf s t).wait).getD j 0 : Nat)] ++ caps) W fun e W' => e = .returned (.tuple #[]) ∧ I (j + 1) W') :
    Calls Tryz.prog 198 #[.pointer (some ⟨Q.bb, 0, none⟩), .int .i64 t, .func (.func fid) #[] caps] w fun e w' => e = .returned (.tuple #[]) ∧ I (placesW 1 (thOf s t).wait).length w' := by
  have hb := buf_bf hK
  have hs := hp.hs
  have hnt := hp.hn
  have htl := hp.ht
  have hw3 := hp.hw
  have hn4 := hp.h4
  obtain ⟨lb, lc, hlv, hlb, hllb⟩ := hs.bufsB hb (by omega)
  obtain ⟨qa, qc, hq⟩ := hs.bufV hb t
  have b1 := hs.b1 hb
  rw [hlv] at b1
  have bq := hs.bufc hb hlb (t := t) (by omega)
  rw [hq] at bq
  obtain ⟨n, hn⟩ : ∃ m, Q.nt = m := ⟨_, rfl⟩
  rw [hn] at b1 hnt
  have htn : t < n := by omega
  have hn44 : n ≤ 4 := by omega
  have hpl : placesW 1 (thOf s t).wait = if (thOf s t).wait.length = 0 then [] else [0] := by
    unfold placesW
    generalize (thOf s t).wait = l at hw3 ⊢
    match l, hw3 with
    | [], _ => rfl
    | [a], _ => rfl
    | [a, b], _ => rfl
    | [a, b, c], _ => rfl
  rw [hpl] at hC ⊢
  obtain ⟨k, hk⟩ : ∃ m, (thOf s t).wait.length = m := ⟨_, rfl⟩
  rw [hk] at bq hw3 hC ⊢
  by_cases hk0 : k = 0
  · subst hk0
    simp only [if_true, List.length_nil]
    have HI0 : Hid (∀ k, I 0 (w.drewN k)) := fun k => hI 0 w k h0
    have HI1 : Hid (I 0 w) := h0
    clear hp hs hlv hlb hq hn hk hnt htl hn4 hC hI h0 hpl
    go_enter Tryz.func198, Tryz.ntmps198
    go_wp2
    go_end0
    exact ⟨rfl, HI1.out⟩
  · rw [if_neg hk0] at hC ⊢
    have HC : Hid (Calls Tryz.prog fid (#[.int .i64 0] ++ caps) w fun e W' => e = .returned (.tuple #[]) ∧ I 1 W') := hC 0 w (by simp) h0
    have hkp : 0 < k := by omega
    clear hp hs hlv hlb hq hn hk hnt htl hn4 hC hI h0 hpl hk0
    go_enter Tryz.func198, Tryz.ntmps198
    go_wp2_with fail
    refine Calls.mono HC.out ?_
    rintro e w1 ⟨rfl, h1⟩
    go_wp2_with fail
    go_end0
    exact ⟨rfl, h1⟩
end

section
open Go.RowKit

theorem mem_getD {l : List Wt} {k : Nat} {x : Wt} (hk : k < l.length) (h : l.getD k default = x) : x ∈ l := by
  have : l.getD k default = l[k] := by simp [List.getD, hk]
  rw [← h, this]
  exact List.getElem_mem _
set_option maxRecDepth 100000 in
set_option maxHeartbeats 800000 in
theorem sindex_any (w : World) (qa : Option Addr) (qc : Nat) (l : List Wt) (x : Wt) (hq : WIn w qa l) (hl : l.length ≤ 100) :
    Calls Tryz.prog 208 #[.slice qa l.length qc, .agg #[.bool x.lk, .int .i64 x.wh, .int .i64 x.what]] w fun e w' => (∃ r : Int, e = .returned (.int .i64 r) ∧ (0 ≤ r ↔ x ∈ l)) ∧ Below w.heap.size w w' := by
  obtain ⟨n, hn⟩ : ∃ n, l.length = n := ⟨_, rfl⟩
  have HN : Hid (l.length = n) := hn
  rw [hn] at hl ⊢
  obtain ⟨lk, wh, what⟩ := x
  simp only
  have hq' := hq.below ((Below.refl w.heap.size w).alloc (Nat.le_refl _) (.cells #[.bool lk, .int .i64 wh, .int .i64 what] 267))
  have HB0 : Hid (∀ W, Below (w.heap.size + 1) (w.alloc (.cells #[.bool lk, .int .i64 wh, .int .i64 what] 267)) W → Below w.heap.size w W) := fun W h => ((Below.refl w.heap.size w).alloc (Nat.le_refl _) _).trans (h.mono (by omega))
  have HBX : Hid (∀ W, Below (w.heap.size + 1) (w.alloc (.cells #[.bool lk, .int .i64 wh, .int .i64 what] 267)) W → W.cell? ⟨w.heap.size, 0, none⟩ = some (.bool lk) ∧ W.cell? ⟨w.heap.size, 1, none⟩ = some (.int .i64 wh) ∧ W.cell? ⟨w.heap.size, 2, none⟩ = some (.int .i64 what)) := fun W h => ⟨(h.cell (p := ⟨w.heap.size, 0, none⟩) (by show w.heap.size < _; omega)).trans (World.cell?_alloc_new _ _ _ _), (h.cell (p := ⟨w.heap.size, 1, none⟩) (by show w.heap.size < _; omega)).trans (World.cell?_alloc_new _ _ _ _), (h.cell (p := ⟨w.heap.size, 2, none⟩) (by show w.heap.size < _; omega)).trans (World.cell?_alloc_new _ _ _ _)⟩
  have HQ : Hid (∀ W, Below (w.heap.size + 1) (w.alloc (.cells #[.bool lk, .int .i64 wh, .int .i64 what] 267)) W → WIn W qa l) := fun W h => hq'.below (by rw [World.size_alloc]; exact h)
  clear hn hq hq'
  go_enter Tryz.func208, Tryz.ntmps208
  go_wp2
  go_loopw [8] (fun i wr => ∃ k : Nat, k ≤ n ∧ i = .int .i64 k ∧ Hid (∀ p, p < k → l.getD p default ≠ ⟨lk, wh, what⟩) ∧ Below (w.heap.size + 1) (w.alloc (.cells #[.bool lk, .int .i64 wh, .int .i64 what] 267)) wr) (fun i _ => n - (intOf i).toNat)
  case atStart => exact ⟨0, Nat.zero_le _, rfl, fun p hp => absurd hp (Nat.not_lt_zero _), Below.refl _ _⟩
  case round =>
    obtain ⟨k, hk, rfl, HJ, hbr⟩ := hrel
    obtain ⟨d0, d1, d2⟩ := HBX.out _ hbr
    by_cases hlt : k < n
    · obtain ⟨b, o, rfl, c0, c1, c2⟩ := HQ.out _ hbr k (by rw [HN.out]; exact hlt)
      obtain ⟨y, hy⟩ : ∃ y, l.getD k default = y := ⟨_, rfl⟩
      have HY : Hid (l.getD k default = y) := hy
      rw [hy] at c0 c1 c2
      clear hy
      obtain ⟨lk', wh', what'⟩ := y
      simp only at c0 c1 c2
      by_cases he : (⟨lk', wh', what'⟩ : Wt) = ⟨lk, wh, what⟩
      · simp only [Wt.mk.injEq] at he
        obtain ⟨rfl, rfl, rfl⟩ := he
        go_wp2
        go_region
        all_goals go_wp2
        all_goals go_ret
        all_goals refine ⟨⟨_, rfl, ?_⟩, (HB0.out _ hbr).drew⟩
        all_goals exact ⟨fun _ => mem_getD (by rw [HN.out]; exact hlt) HY.out, fun _ => by omega⟩
      · have HE : Hid (∀ p, p < k + 1 → l.getD p default ≠ ⟨lk, wh, what⟩) := fun p hp => by
          rcases (by omega : p < k ∨ p = k) with h | rfl
          · exact HJ.out p h
          · rw [HY.out]; exact he
        by_cases e1 : lk = lk'
        · subst e1
          by_cases e2 : wh = wh'
          · subst e2
            have e3 : ¬ what = what' := fun e => he (by rw [e])
            clear he
            go_wp2
            go_region
            all_goals go_wp2
            all_goals go_roundw
            case rel => exact ⟨k + 1, by omega, by go_num, HE, hbr.drew⟩
            case measure => simp [intOf]; omega
          · clear he
            go_wp2
            go_region
            all_goals go_wp2
            all_goals go_roundw
            case rel => exact ⟨k + 1, by omega, by go_num, HE, hbr.drew⟩
            case measure => simp [intOf]; omega
        · clear he
          go_wp2
          go_region
          all_goals go_wp2
          all_goals go_roundw
          case rel => exact ⟨k + 1, by omega, by go_num, HE, hbr.drew⟩
          case measure => simp [intOf]; omega
    · go_wp2
      go_ret
      refine ⟨⟨_, rfl, ?_⟩, HB0.out _ hbr⟩
      refine ⟨fun h => absurd h (by decide), fun h => ?_⟩
      obtain ⟨p, hp, e⟩ := List.getElem_of_mem h
      have hpk : p < k := by have := HN.out; omega
      exact absurd (by simp [List.getD, List.getElem?_eq_getElem hp, e]) (HJ.out p hpk)

set_option maxRecDepth 100000 in
set_option maxHeartbeats 800000 in
theorem scontains_any (w : World) (qa : Option Addr) (qc : Nat) (l : List Wt) (x : Wt) (hq : WIn w qa l) (hl : l.length ≤ 100) :
    Calls Tryz.prog 204 #[.slice qa l.length qc, .agg #[.bool x.lk, .int .i64 x.wh, .int .i64 x.what]] w fun e w' => e = .returned (.bool (decide (x ∈ l))) ∧ Below w.heap.size w w' := by
  have HI := Hid.out (p := Hid _) (fun W (e : Below w.heap.size w W) => sindex_any W qa qc l x (hq.below e) hl)
  obtain ⟨b, hb⟩ : ∃ b, decide (x ∈ l) = b := ⟨_, rfl⟩
  have HBB : Hid (decide (x ∈ l) = b) := hb
  rw [hb]
  obtain ⟨n, hn⟩ : ∃ n, l.length = n := ⟨_, rfl⟩
  rw [hn] at HI ⊢
  have HB0 : Hid (∀ o, Below w.heap.size w (w.alloc o)) := fun o => (Below.refl _ _).alloc (Nat.le_refl _) _
  clear hq hl hb hn
  go_enter Tryz.func204, Tryz.ntmps204
  go_wp2_with fail
  refine Calls.mono (HI.out _ (by first | exact Below.refl _ _ | exact HB0.out _)) ?_
  rintro e w1 ⟨⟨r, rfl, hr⟩, hb1⟩
  have HR := Hid.out (p := Hid _) hr
  clear hr
  go_wp2
  go_ret
  refine ⟨ret_bool ?_, ?_⟩
  · rw [← HBB.out]
    exact decide_eq_decide.2 HR.out
  · first | exact hb1 | exact (HB0.out _).trans (hb1.mono (by simp))
end

end Go.Proofs.YtgofbkgfonlceacGreatDoor
