/-
  A move of the document's run that does one that waits; what can be picked, whichever the mode.
  A state's numbers, by the document and by the program, tell it; what a state becomes, what runs come to.
  What holds of all that can be come to; what a run comes to is one of the outcomes; each outcome without stores that wait is one with them: plain functions.
  States that are gone through one behind the other: plain functions.
  The document's Check as one contract.
-/
import Derived.Test.YtgofbkgfonlceabGreatDoorRDo6
import Derived.Test.YtgofbkgfonlceabGreatDoorDSt
import Derived.Test.YtgofbkgfonlceabGreatDoorWorkP
import Derived.Test.YtgofbkgfonlceabGreatDoorCheckR2
namespace Go.Proofs.YtgofbkgfonlceabGreatDoor
section
open Go.RowKit

/-- Cells that are stored one behind the other. -/
def putL (xs : List Value) (o : Nat) : List Value → List Value
  | [] => xs
  | u :: us => putL (xs.set o u) (o + 1) us
theorem fam_puts {B : Nat} {e : TypeId} {size : Nat} {v : Value} {n g : Nat} (hg : v.ownBlock = some g) : ∀ (us : List Value) (o : Nat) (w : World) (xs : List Value), w.ownsRow B e size v n xs → (w.setCells g o us).ownsRow B e size v n (putL xs o us)
  | [], _, _, _, h => h
  | u :: us, o, w, _, h => fam_puts hg us (o + 1) (w.setCell ⟨g, o, none⟩ u) _ (fam_put h hg o u)
theorem fam_shrink {w : World} {B : Nat} {e : TypeId} {size : Nat} {n m g cap : Nat} {xs : List Value} (h : w.ownsRow B e size (.slice (some ⟨g, 0, none⟩) n cap) n xs) (hm : m ≤ n) : w.ownsRow B e size (.slice (some ⟨g, 0, none⟩) m cap) m (xs.take (m * size)) := by
  obtain ⟨h0, h1⟩ := h
  have hmul : m * size ≤ n * size := Nat.mul_le_mul_right _ hm
  refine ⟨by rw [List.length_take, h0]; omega, ?_⟩
  rcases h1 with ⟨h1, _⟩ | ⟨g', cap', cur, hv, hg, hh, h2, h3, h4, h5⟩
  · simp at h1
  · simp only [Value.slice.injEq, Option.some.injEq, Addr.mk.injEq, and_true] at hv
    obtain ⟨rfl, _, rfl⟩ := hv
    exact Or.inr ⟨g, cap, cur, rfl, hg, hh, Nat.le_trans hm h2, h3, h4, by rw [← h5, List.take_take, Nat.min_eq_left hmul]⟩
theorem grown_puts (g : Nat) : ∀ (vs : List Value) (o : Nat) (w : World), w.grownBy (w.setCells g o vs) (some g)
  | [], _, _ => ⟨rfl, rfl, rfl, Nat.le_refl _, fun _ _ _ => rfl⟩
  | u :: us, o, w => by
    have h := grown_puts g us (o + 1) (w.setCell ⟨g, o, none⟩ u)
    have hz : (w.setCell ⟨g, o, none⟩ u).heap.size = w.heap.size := by simp [World.setCell]
    exact ⟨h.os, h.tape, h.output, by have := h.size; rw [hz] at this; exact this, fun k hk hne => (h.block k (by rw [hz]; exact hk) hne).trans (Below.heap_setCell _ _ _ _ (fun e => hne (by rw [e])))⟩
theorem waitV_1 (a : Wt) : waitV [a] = [.bool a.lk, .int .i64 a.wh, .int .i64 a.what] := waitV_snoc [] a
theorem waitV_2 (a b : Wt) : waitV [a, b] = [.bool a.lk, .int .i64 a.wh, .int .i64 a.what, .bool b.lk, .int .i64 b.wh, .int .i64 b.what] := by
  rw [show [a, b] = [a] ++ [b] from rfl, waitV_snoc, waitV_1]; rfl
theorem waitV_3 (a b c : Wt) : waitV [a, b, c] = [.bool a.lk, .int .i64 a.wh, .int .i64 a.what, .bool b.lk, .int .i64 b.wh, .int .i64 b.what, .bool c.lk, .int .i64 c.wh, .int .i64 c.what] := by
  rw [show [a, b, c] = [a, b] ++ [c] from rfl, waitV_snoc, waitV_2]; rfl
/-- One taken out of at most three that wait. -/
theorem waitV_cut {l : List Wt} {k : Nat} (hl : l.length ≤ 3) (hk : k < l.length) : (putL (waitV l) (k * 3) ((waitV l).drop ((k + 1) * 3))).take ((l.length - 1) * 3) = waitV (l.eraseIdx k) := by
  match l, k, hl, hk with
  | [a], 0, _, _ => rfl
  | [a, b], 0, _, _ => rw [waitV_2]; rw [show [a, b].eraseIdx 0 = [b] from rfl, waitV_1]; rfl
  | [a, b], 1, _, _ => rw [waitV_2]; rw [show [a, b].eraseIdx 1 = [a] from rfl, waitV_1]; rfl
  | [a, b, c], 0, _, _ => rw [waitV_3]; rw [show [a, b, c].eraseIdx 0 = [b, c] from rfl, waitV_2]; rfl
  | [a, b, c], 1, _, _ => rw [waitV_3]; rw [show [a, b, c].eraseIdx 1 = [a, c] from rfl, waitV_2]; rfl
  | [a, b, c], 2, _, _ => rw [waitV_3]; rw [show [a, b, c].eraseIdx 2 = [a, b] from rfl, waitV_2]; rfl
theorem waitC_one (x : Wt) (j : Nat) : (waitC x j).oneCell' = true := by
  unfold waitC
  split
  · rfl
  · split <;> rfl
theorem waitV_len (l : List Wt) : (waitV l).length = l.length * 3 := rows3_len _ _

/-- What can be picked: an order of a thread that is able, or one that waits and may be done. -/
theorem movesX_mem {L : Nat → Nat} {X : Nat → Nat → Nat → Int} {mode : Int} {s : Sx} {mv : Int} (h : mv ∈ movesX L X mode s) : (∃ t, t < s.ths.length ∧ mv = 8 * (t : Int) ∧ ableT L X s t = true) ∨ ∃ t k, t < s.ths.length ∧ k < (thOf s t).wait.length ∧ mv = 8 * (t : Int) + (k : Int) + 1 ∧ mayW mode (thOf s t).wait k = true := by
  unfold movesX at h
  rw [List.mem_flatMap] at h
  obtain ⟨t, ht, h⟩ := h
  have htn : t < s.ths.length := by simpa using ht
  unfold movesT at h
  rw [List.mem_append] at h
  rcases h with h | h
  · by_cases ha : ableT L X s t = true
    · rw [if_pos ha] at h
      exact Or.inl ⟨t, htn, by simpa using h, ha⟩
    · rw [if_neg ha] at h
      cases h
  · rw [List.mem_map] at h
    obtain ⟨k, hk, e⟩ := h
    rw [List.mem_filter] at hk
    exact Or.inr ⟨t, k, htn, by simpa using hk.1, e.symm, hk.2⟩
theorem doX_wait {X : Nat → Nat → Nat → Int} {mode : Int} {s : Sx} {t k : Nat} (hk : k < 7) : doX X mode s (8 * t + k + 1) = setTh (doneW s ((thOf s t).wait.getD k default)) t { thOf s t with wait := (thOf s t).wait.eraseIdx k } := by
  have hth : ∀ x, thOf (doneW s x) t = thOf s t := fun x => by unfold doneW; split <;> rfl
  unfold doX
  simp only [show (8 * t + k + 1) / 8 = t by omega, show (8 * t + k + 1) % 8 = k + 1 by omega]
  rw [if_pos (by omega)]
  simp only [Nat.add_sub_cancel, hth]
theorem SOk.wait {n : Nat} {L : Nat → Nat} {X : Nat → Nat → Nat → Int} {m lk rg : Nat} {mode : Int} {s : Sx} (h : SOk n L m lk rg mode s) {t k : Nat} (ht : t < n) (hk : k < (thOf s t).wait.length) : SOk n L m lk rg mode (doX X mode s (8 * t + k + 1)) := by
  have hw := h.wlen t ht
  rw [doX_wait (by omega)]
  have h1 := h.done ((thOf s t).wait.getD k default)
  refine h1.th ht (h.pc t ht) (h.regs t ht) ?_ (fun y hy => h.wok t ht y (List.mem_of_mem_eraseIdx hy)) (fun h0 => ?_)
  · have := List.length_eraseIdx_le (thOf s t).wait k
    show ((thOf s t).wait.eraseIdx k).length ≤ 3
    omega
  · show (thOf s t).wait.eraseIdx k = []
    rw [h.bare h0 t ht]; rfl
theorem prints_wait {X : Nat → Nat → Nat → Int} {mode : Int} {s : Sx} {t k : Nat} (hk : k < 7) : (doX X mode s (8 * t + k + 1)).prints = s.prints := by
  rw [doX_wait hk]
  show (doneW s _).prints = _
  unfold doneW
  split <;> rfl
theorem fell_wait {X : Nat → Nat → Nat → Int} {mode : Int} {s : Sx} {t k : Nat} (hk : k < 7) : (doX X mode s (8 * t + k + 1)).fell = s.fell := by
  rw [doX_wait hk]
  show (doneW s _).fell = _
  unfold doneW
  split <;> rfl

attribute [local go_sem ↓] appS_eq
set_option maxRecDepth 100000 in
set_option maxHeartbeats 3200000 in
theorem do_wait (w : World) (B sb : Nat) (P : Pg) (v : Rl → Value) (s : Sx) (L : Nat → Nat) (X : Nat → Nat → Nat → Int) (m lk rg t k : Nat) (hs : DSt w B P sb v s) (ho : SOk P.n L m lk rg P.mode s) (hn4 : P.n ≤ 4) (hm64 : m ≤ 64) (hlk4 : lk ≤ 4) (ht : t < P.n) (hk : k < (thOf s t).wait.length) :
    Calls Tryz.prog 65 #[.pointer (some ⟨sb, 0, none⟩), .int .i64 (8 * (t : Int) + (k : Int) + 1)] w (DoQ B sb P v w (doX X P.mode s (8 * t + k + 1))) := by
  have hw3 := ho.wlen t ht
  have hthn := ho.ths
  have htl : t < s.ths.length := by omega
  rw [doX_wait (by omega)]
  obtain ⟨tb, tc, hth, htb, hltb⟩ := hs.thrB (by omega)
  obtain ⟨qb, qc, hqv, hqb, hlqb⟩ := hs.waitB (t := t) (by omega)
  have c5 := hs.c5
  rw [hth, hthn] at c5
  have cq := hs.wait htb htl
  rw [hqv] at cq
  have hwin := hs.win hqv
  obtain ⟨b', o', e', x0, x1, x2⟩ := hwin k hk
  simp only [Option.some.injEq, Addr.mk.injEq, and_true] at e'
  obtain ⟨rfl, rfl⟩ := e'
  simp only [Nat.zero_add] at x0 x1 x2
  have hok := (ho.wok t ht ((thOf s t).wait.getD k default) (by simp [List.getD, hk])).1
  obtain ⟨y, hy⟩ : ∃ y, (thOf s t).wait.getD k default = y := ⟨_, rfl⟩
  rw [hy] at x0 x1 x2 hok ⊢
  have hthd : thOf (doneW s y) t = thOf s t := by unfold doneW; split <;> rfl
  have hlen : (doneW s y).ths.length = s.ths.length := by unfold doneW; split <;> rfl
  obtain ⟨nw, hnw⟩ : ∃ n, (thOf s t).wait.length = n := ⟨_, rfl⟩
  have HDN : Hid (∀ W, W.heap = w.heap → W.os = w.os → W.tape = w.tape → W.output = w.output → Calls Tryz.prog 96 #[.pointer (some ⟨sb, 0, none⟩), .agg #[.bool y.lk, .int .i64 y.wh, .int .i64 y.what]] W fun e w1 => e = .returned (.tuple #[]) ∧
      (w1.cell? ⟨sb, 5, none⟩ = some (.slice (some ⟨tb, 0, none⟩) P.n tc) ∧ w1.cell? ⟨tb, t * 3 + 2, none⟩ = some (.slice (some ⟨qb, 0, none⟩) nw qc) ∧ w1.frozen? ⟨tb, t * 3 + 2, none⟩ = false) ∧
      ∃ vs, ∀ W2, W2.heap = w1.heap → W2.os = w1.os → W2.tape = w1.tape → W2.output = w1.output → (W2.setCells qb (k * 3) vs).cell? ⟨tb, t * 3 + 2, none⟩ = some (.slice (some ⟨qb, 0, none⟩) nw qc) ∧ (W2.setCells qb (k * 3) vs).frozen? ⟨tb, t * 3 + 2, none⟩ = false ∧
        (∀ a2 c2, (0 < nw - (k + 1) → a2 = ⟨qb, (k + 1) * 3, none⟩) → (AppS #[91, 91] 91 #[.slice (some ⟨qb, 0, none⟩) k qc, .slice (some a2) (nw - (k + 1)) c2]).run Tryz.prog W2 = .ok (.slice (some ⟨qb, 0, none⟩) (nw - 1) qc) (W2.setCells qb (k * 3) vs)) ∧
        DoQ B sb P v w (setTh (doneW s y) t { thOf s t with wait := (thOf s t).wait.eraseIdx k }) (.returned (.tuple #[])) ((W2.setCells qb (k * 3) vs).setCell ⟨tb, t * 3 + 2, none⟩ (.slice (some ⟨qb, 0, none⟩) (nw - 1) qc))) := fun W e e1 e2 e3 => by
    refine (done_any W B sb P v s y (hs.same e) hok.1 (by rw [ho.words, ho.own]; exact hok.2) (by rw [ho.words]; exact hm64) (by rw [ho.own]; exact hlk4)).mono fun en w1 ⟨h1, h2, h3⟩ => ⟨h1, ⟨?_, ?_, h2.fam.frozen htb _⟩, (waitV (thOf s t).wait).drop ((k + 1) * 3), fun W2 g g1 g2 g3 => ?_⟩
    · have := h2.c5
      rwa [hth, hthn] at this
    · have := h2.wait htb (by rw [hlen]; exact htl)
      rwa [hqv, hnw] at this
    · have hD := h2.same g
      have hMv : Moved w W2 v v := Moved.same ((Moved.same (Moved.refl w v) e e1 e2 e3).trans h3) g g1 g2 g3
      have hown : W2.ownsRow B 177 3 (v (.wait t)) (thOf s t).wait.length (Go.Proofs.YtgofbkgfonlceabGreatDoor.waitV (thOf s t).wait) := by
        have := hD.fam.own (.wait t)
        change W2.ownsRow B 177 3 (v (.wait t)) (thOf (doneW s y) t).wait.length (Go.Proofs.YtgofbkgfonlceabGreatDoor.waitV (thOf (doneW s y) t).wait) at this
        rwa [hthd] at this
      have hputs := fam_puts hqb ((Go.Proofs.YtgofbkgfonlceabGreatDoor.waitV (thOf s t).wait).drop ((k + 1) * 3)) (k * 3) W2 _ hown
      have hgr := grown_puts qb ((Go.Proofs.YtgofbkgfonlceabGreatDoor.waitV (thOf s t).wait).drop ((k + 1) * 3)) (k * 3) W2
      have hwl : (Go.Proofs.YtgofbkgfonlceabGreatDoor.waitV (thOf s t).wait).length = (thOf s t).wait.length * 3 := waitV_len _
      have hcut := waitV_cut hw3 hk
      have hel : ((thOf s t).wait.eraseIdx k).length = nw - 1 := by rw [List.length_eraseIdx, if_pos hk, hnw]
      rw [hqv] at hputs
      have hsh := fam_shrink hputs (m := (thOf s t).wait.length - 1) (by omega)
      rw [hcut, hnw, ← hel] at hsh
      have hDD := hD.newWait htb (by rw [hlen]; exact htl) (H := W2.heap.size) hsh (by rw [hqb]; exact hgr) (Or.inl hqb) (Nat.le_refl _)
      have hMM := (hMv.grow (r := .wait t) (g := qb) (m := ((thOf s t).wait.eraseIdx k).length) (c := qc) (H := W2.heap.size) (by rw [hqb]; exact hgr) (Or.inl hqb) (Nat.le_refl _)).put (r := .thr) (g := tb) (by rw [upd_ne _ _ (by simp)]; exact htb) (t * 3 + 2) (.slice (some ⟨qb, 0, none⟩) (nw - 1) qc)
      have hne : tb ≠ qb := hs.fam.ne htb hqb (by simp)
      have hltb2 : tb < W2.heap.size := hD.fam.lt htb
      have hblk := hgr.block tb hltb2 (fun e => hne (by simpa using e))
      rw [hthd, hel] at hDD
      rw [hel] at hMM
      refine ⟨(World.cell?_of_block hblk).trans ?_, (World.frozen?_of_block hblk).trans (hD.fam.frozen htb _), fun a2 c2 ha2 => ?_, ⟨rfl, _, hDD, hMM⟩⟩
      · have := hD.wait htb (by rw [hlen]; exact htl)
        rwa [hqv, hnw] at this
      · obtain ⟨i, hi, hz0, hz1, hz2⟩ := info_is infoWait
        have hnl : ((Go.Proofs.YtgofbkgfonlceabGreatDoor.waitV (thOf s t).wait).drop ((k + 1) * 3)).length = (nw - (k + 1)) * 3 := by rw [List.length_drop, hwl, hnw]; omega
        have hcell : ∀ j, j < nw * 3 → ∃ u, (Go.Proofs.YtgofbkgfonlceabGreatDoor.waitV (thOf s t).wait)[j]? = some u ∧ W2.cell? ⟨qb, j, none⟩ = some u := fun j hj => by
          have hj' : j < (Go.Proofs.YtgofbkgfonlceabGreatDoor.waitV (thOf s t).wait).length := by rw [hwl, hnw]; exact hj
          exact ⟨_, List.getElem?_eq_getElem hj', fam_cell hown hqb (List.getElem?_eq_getElem hj')⟩
        have hone : ∀ u ∈ (Go.Proofs.YtgofbkgfonlceabGreatDoor.waitV (thOf s t).wait).drop ((k + 1) * 3), u.oneCell' = true := fun u hu => by
          have := List.mem_of_mem_drop hu
          unfold Go.Proofs.YtgofbkgfonlceabGreatDoor.waitV rows3 at this
          rw [List.mem_map] at this
          obtain ⟨j, _, rfl⟩ := this
          exact waitC_one _ _
        have hsrc : Src Tryz.prog i.size 91 (.slice (some a2) (nw - (k + 1)) c2) (nw - (k + 1)) ((Go.Proofs.YtgofbkgfonlceabGreatDoor.waitV (thOf s t).wait).drop ((k + 1) * 3)) W2 := by
          rw [hz1]
          refine Src.ofSlice W2 Tryz.underlying91 a2 _ c2 _ hnl (fun j u hu => ?_) hone
          rw [List.getElem?_drop] at hu
          have hj : j < (nw - (k + 1)) * 3 := by
            rcases Nat.lt_or_ge j ((nw - (k + 1)) * 3) with h | h
            · exact h
            · rw [List.getElem?_eq_none (by rw [hwl, hnw]; omega)] at hu; cases hu
          have hadd : (⟨qb, (k + 1) * 3, none⟩ : Addr).add j = ⟨qb, (k + 1) * 3 + j, none⟩ := by unfold Addr.add; split <;> simp_all
          rw [ha2 (by omega), hadd]
          obtain ⟨u', g1, g2⟩ := hcell ((k + 1) * 3 + j) (by omega)
          rw [hu] at g1
          rw [g2, g1]
        have := run_append_room_src W2 91 91 91 177 i Tryz.underlying91 hi qb 0 k qc (.slice (some a2) (nw - (k + 1)) c2) (nw - (k + 1)) _ hsrc (by
          have := hown.2
          rw [hqv] at this
          rcases this with ⟨h0, _⟩ | ⟨g', cap', cur, hv', _, _, h5, _⟩
          · simp at h0
          · simp only [Value.slice.injEq, Option.some.injEq, Addr.mk.injEq, and_true] at hv'
            rw [hv'.2.2]; omega) (fun j hj => by
          rw [hnl] at hj
          obtain ⟨u', _, g2⟩ := hcell (0 + k * i.size + j) (by rw [hz1]; omega)
          rw [g2]; rfl) (fun j hj => fam_frozen hown hqb _)
        rw [hz1, Nat.zero_add, show k + (nw - (k + 1)) = nw - 1 by omega] at this
        exact this
  have hkk : (8 * (t : Int) + (k : Int) + 1) / 8 = (t : Int) := by omega
  have hkr : (8 * (t : Int) + (k : Int) + 1) % 8 = (k : Int) + 1 := by omega
  have hqc : nw ≤ qc := by
    have := (hs.fam.own (.wait t)).2
    rw [hqv] at this
    rcases this with ⟨h0, _⟩ | ⟨g', cap', cur, hv', _, _, h5, _⟩
    · simp at h0
    · simp only [Value.slice.injEq, Option.some.injEq, Addr.mk.injEq, and_true] at hv'
      rw [hv'.2.2, ← hnw]; exact h5
  obtain ⟨mv, hmv⟩ : ∃ x, 8 * (t : Int) + (k : Int) + 1 = x := ⟨_, rfl⟩
  have hmv0 : 0 ≤ mv := by omega
  have hmv1 : mv ≤ 1000 := by omega
  obtain ⟨lk', hlk'⟩ : ∃ x, y.lk = x := ⟨_, rfl⟩
  obtain ⟨wh', hwh'⟩ : ∃ x, y.wh = x := ⟨_, rfl⟩
  obtain ⟨wt', hwt'⟩ : ∃ x, y.what = x := ⟨_, rfl⟩
  rw [hmv] at hkk hkr ⊢
  rw [hlk'] at x0
  rw [hwh'] at x1
  rw [hwt'] at x2
  rw [hlk', hwh', hwt'] at HDN
  obtain ⟨n, hnn⟩ : ∃ n, P.n = n := ⟨_, rfl⟩
  rw [hnn] at c5 ht hn4 HDN
  rw [hnw] at cq hk hw3
  clear hs ho hth htb hqv hqb hwin hok hy hthd hlen hnw hmv hlk' hwh' hwt' hnn hthn htl
  go_enter Tryz.func65, Tryz.ntmps65
  go_wp2_with fail
  refine Calls.mono (HDN.out _ rfl rfl rfl rfl) ?_
  rintro e w1 ⟨rfl, ⟨d5, dq, df⟩, vs, HV⟩
  have HVV := Hid.out (p := Hid _) HV
  obtain ⟨hA, hB, hrun, hQ⟩ := HVV.out w1.drew rfl rfl rfl rfl
  have hr1 : (AppS #[91, 91] 91 #[.slice (some ⟨qb, 0, none⟩) k qc, .slice (if qc = k + 1 then some ⟨qb, 0, none⟩ else some ⟨qb, (k + 1) * 3, none⟩) (nw - (k + 1)) (qc - (k + 1))]).run Tryz.prog w1.drew = .ok (.slice (some ⟨qb, 0, none⟩) (nw - 1) qc) (w1.drew.setCells qb (k * 3) vs) := by
    split
    · exact hrun ⟨qb, 0, none⟩ _ (fun h => by omega)
    · exact hrun ⟨qb, (k + 1) * 3, none⟩ _ (fun _ => rfl)
  have HQ := Hid.out (p := Hid _) hQ
  clear HV HDN hQ hrun
  go_wp2
  go_region
  all_goals go_wp2
  all_goals go_end0
  all_goals refine ⟨rfl, ?_⟩
  all_goals first | exact HQ.out.2 | (have hq2 := HQ.out.2; simp only [‹qc = k + 1›] at hq2; exact hq2)

/-- What can be picked can be done, whichever the mode. -/
theorem doOk_any {P : Pg} (hm : 0 ≤ P.mode) {A : Nat → Option Addr} {L C : Nat → Nat} {X : Nat → Nat → Nat → Int} {m lk rg : Nat} (hc : COk P.n L X m lk rg) : DoOk P A L C X m lk rg := by
  intro w B sb v s mv hs hB ho hp hpr hmv
  rcases movesX_mem hmv with ⟨t, ht, rfl, ha⟩ | ⟨t, k, ht, hk, rfl, _⟩
  · have ht' : t < P.n := by rw [← ho.ths]; exact ht
    have hx : Cx w B sb P v s A L C X m lk rg t := ⟨ht', hs, hB, ho, hc, hp, able_lt ha, hpr, hm⟩
    have e : (8 * (t : Int)).toNat = 8 * t := by omega
    rw [e]
    exact ⟨do_order w B sb P v s A L C X m lk rg t hx, ho.step hc hm ht' ha, prints_step⟩
  · have ht' : t < P.n := by rw [← ho.ths]; exact ht
    have hw := ho.wlen t ht'
    have e : (8 * (t : Int) + (k : Int) + 1).toNat = 8 * t + k + 1 := by omega
    rw [e]
    exact ⟨do_wait w B sb P v s L X m lk rg t k hs ho hc.n4 hc.m64 hc.lk4 ht' hk, ho.wait ht' hk, by rw [prints_wait (by omega)]; omega⟩
end

section
open Go.RowKit

/-! A state's numbers. -/
/-- All that a thread is, by the document. -/
def numW (x : Wt) : List Int := [bitI x.lk, x.wh, x.what]
def numT (h : Th) : List Int := [(h.pc : Int), (h.wait.length : Int)] ++ h.regs ++ h.wait.flatMap numW
def numsX (s : Sx) : List Int := s.ths.flatMap numT ++ s.words ++ s.own ++ s.prints
theorem numW_inj {x y : Wt} (h : numW x = numW y) : x = y := by
  cases x with
  | mk a b c =>
    cases y with
    | mk a' b' c' =>
      simp only [numW, List.cons.injEq, and_true] at h
      obtain ⟨h1, rfl, rfl⟩ := h
      cases a <;> cases a' <;> first | rfl | cases h1
theorem flat_inj {f : Wt → List Int} {k : Nat} {Q : Wt → Prop} (hk : ∀ x, (f x).length = k) (hf : ∀ x y, Q x → Q y → f x = f y → x = y) : ∀ {l r : List Wt} {u v : List Int}, l.length = r.length → (∀ x, x ∈ l → Q x) → (∀ x, x ∈ r → Q x) → l.flatMap f ++ u = r.flatMap f ++ v → l = r ∧ u = v
  | [], [], _, _, _, _, _, h => ⟨rfl, h⟩
  | a :: l, b :: r, u, v, hl, h1, h2, h => by
    rw [List.flatMap_cons, List.flatMap_cons, List.append_assoc, List.append_assoc] at h
    obtain ⟨e1, e2⟩ := List.append_inj h (by rw [hk, hk])
    obtain ⟨e3, e4⟩ := flat_inj hk hf (by simpa using hl) (fun x hx => h1 x (by simp [hx])) (fun x hx => h2 x (by simp [hx])) e2
    rw [hf _ _ (h1 a (by simp)) (h2 b (by simp)) e1, e3]
    exact ⟨rfl, e4⟩
theorem numT_inj {a b : Th} {u v : List Int} (hr : a.regs.length = b.regs.length) (h : numT a ++ u = numT b ++ v) : a = b ∧ u = v := by
  cases a with
  | mk pa ra wa =>
    cases b with
    | mk pb rb wb =>
      simp only [numT, List.append_assoc, List.cons_append, List.nil_append, List.cons.injEq] at h
      obtain ⟨h1, h2, h3⟩ := h
      obtain ⟨e1, e2⟩ := List.append_inj h3 hr
      obtain ⟨e3, e4⟩ := flat_inj (k := 3) (Q := fun _ => True) (fun _ => rfl) (fun _ _ _ _ => numW_inj) (by omega) (fun _ _ => trivial) (fun _ _ => trivial) e2
      subst e1 e3
      exact ⟨by rw [show pa = pb by omega], e4⟩
theorem nums_ths : ∀ {l r : List Th} {u v : List Int} {rg : Nat}, l.length = r.length → (∀ x, x ∈ l → x.regs.length = rg) → (∀ x, x ∈ r → x.regs.length = rg) → l.flatMap numT ++ u = r.flatMap numT ++ v → l = r ∧ u = v
  | [], [], _, _, _, _, _, _, h => ⟨rfl, h⟩
  | a :: l, b :: r, u, v, rg, hl, h1, h2, h => by
    rw [List.flatMap_cons, List.flatMap_cons, List.append_assoc, List.append_assoc] at h
    obtain ⟨e1, e2⟩ := numT_inj (by rw [h1 a (by simp), h2 b (by simp)]) h
    obtain ⟨e3, e4⟩ := nums_ths (rg := rg) (by simpa using hl) (fun x hx => h1 x (by simp [hx])) (fun x hx => h2 x (by simp [hx])) e2
    rw [e1, e3]
    exact ⟨rfl, e4⟩
theorem SOk.mem {n : Nat} {L : Nat → Nat} {m lk rg : Nat} {mode : Int} {s : Sx} (h : SOk n L m lk rg mode s) {x : Th} (hx : x ∈ s.ths) : ∃ t, t < n ∧ thOf s t = x := by
  obtain ⟨t, ht, e⟩ := List.getElem_of_mem hx
  exact ⟨t, by rw [← h.ths]; exact ht, by unfold thOf; rw [List.getD_eq_getElem?_getD, List.getElem?_eq_getElem ht]; exact e⟩
/-- Two states of a program are the same where their numbers are. -/
theorem nums_inj {n : Nat} {L : Nat → Nat} {m lk rg : Nat} {mode : Int} {s r : Sx} (h1 : SOk n L m lk rg mode s) (h2 : SOk n L m lk rg mode r) (hf : s.fell = r.fell) (h : numsX s = numsX r) : s = r := by
  unfold numsX at h
  simp only [List.append_assoc] at h
  obtain ⟨e1, e2⟩ := nums_ths (rg := rg) (by rw [h1.ths, h2.ths]) (fun x hx => by obtain ⟨t, ht, rfl⟩ := h1.mem hx; exact h1.regs t ht) (fun x hx => by obtain ⟨t, ht, rfl⟩ := h2.mem hx; exact h2.regs t ht) h
  obtain ⟨e3, e4⟩ := List.append_inj e2 (by rw [h1.words, h2.words])
  obtain ⟨e5, e6⟩ := List.append_inj e4 (by rw [h1.own, h2.own])
  cases s; cases r
  simp only at e1 e3 e5 e6 hf
  subst e1 e3 e5 e6 hf
  rfl
/-- All that a thread is, by the program; what waits of it. -/
def telT (h : Th) : List Int := [(h.pc : Int)] ++ h.regs
def telW (x : Wt) : List Int := [if x.lk then -1 - x.wh else x.wh, x.what]
def telB (h : Th) : List Int := [(h.wait.length : Int)] ++ h.wait.flatMap telW
def telM (mode : Int) (s : Sx) : List Int := s.words ++ s.own ++ (if 0 < mode then s.ths.flatMap telB else [])
def telX (mode : Int) (s : Sx) : List Int := s.ths.flatMap telT ++ telM mode s ++ s.prints
theorem telW_inj {x y : Wt} (hx : 0 ≤ x.wh) (hy : 0 ≤ y.wh) (h : telW x = telW y) : x = y := by
  cases x with
  | mk a b c =>
    cases y with
    | mk a' b' c' =>
      simp only [telW, List.cons.injEq, and_true] at h
      obtain ⟨h1, rfl⟩ := h
      simp only at hx hy
      cases a <;> cases a' <;> simp only [if_true, Bool.false_eq_true, if_false] at h1
      · rw [h1]
      · omega
      · omega
      · rw [show b = b' by omega]
theorem tel_ths : ∀ {l r : List Th} {u v : List Int} {rg : Nat}, l.length = r.length → (∀ x, x ∈ l → x.regs.length = rg) → (∀ x, x ∈ r → x.regs.length = rg) → l.flatMap telT ++ u = r.flatMap telT ++ v → (l.map fun x => (x.pc, x.regs)) = (r.map fun x => (x.pc, x.regs)) ∧ u = v
  | [], [], _, _, _, _, _, _, h => ⟨rfl, h⟩
  | a :: l, b :: r, u, v, rg, hl, h1, h2, h => by
    rw [List.flatMap_cons, List.flatMap_cons, List.append_assoc, List.append_assoc] at h
    obtain ⟨e1, e2⟩ := List.append_inj h (by simp [telT, h1 a (by simp), h2 b (by simp)])
    simp only [telT, List.cons_append, List.nil_append, List.cons.injEq] at e1
    obtain ⟨e3, e4⟩ := tel_ths (rg := rg) (by simpa using hl) (fun x hx => h1 x (by simp [hx])) (fun x hx => h2 x (by simp [hx])) e2
    refine ⟨?_, e4⟩
    rw [List.map_cons, List.map_cons, e3, show a.pc = b.pc by omega, e1.2]
theorem tel_buf : ∀ {l r : List Th} {u v : List Int}, l.length = r.length → (∀ x, x ∈ l → ∀ y, y ∈ x.wait → 0 ≤ y.wh) → (∀ x, x ∈ r → ∀ y, y ∈ x.wait → 0 ≤ y.wh) → l.flatMap telB ++ u = r.flatMap telB ++ v → (l.map fun x => x.wait) = (r.map fun x => x.wait) ∧ u = v
  | [], [], _, _, _, _, _, h => ⟨rfl, h⟩
  | a :: l, b :: r, u, v, hl, h1, h2, h => by
    rw [List.flatMap_cons, List.flatMap_cons, List.append_assoc, List.append_assoc] at h
    simp only [telB, List.cons_append, List.nil_append, List.cons.injEq] at h
    obtain ⟨e0, h⟩ := h
    obtain ⟨e1, e2⟩ := flat_inj (k := 2) (Q := fun y => 0 ≤ y.wh) (fun _ => rfl) (fun _ _ h1 h2 => telW_inj h1 h2) (by omega) (h1 a (by simp)) (h2 b (by simp)) h
    obtain ⟨e3, e4⟩ := tel_buf (by simpa using hl) (fun x hx => h1 x (by simp [hx])) (fun x hx => h2 x (by simp [hx])) e2
    exact ⟨by rw [List.map_cons, List.map_cons, e1, e3], e4⟩
theorem ths_eq : ∀ {l r : List Th}, (l.map fun x => (x.pc, x.regs)) = (r.map fun x => (x.pc, x.regs)) → (l.map fun x => x.wait) = (r.map fun x => x.wait) → l = r
  | [], [], _, _ => rfl
  | [], _ :: _, h, _ => by cases h
  | _ :: _, [], h, _ => by cases h
  | a :: l, b :: r, h1, h2 => by
    simp only [List.map_cons, List.cons.injEq, Prod.mk.injEq] at h1 h2
    rw [ths_eq h1.2 h2.2]
    cases a; cases b
    simp only at h1 h2
    rw [h1.1.1, h1.1.2, h2.1]
/-- Two states of a program are the same where what they tell is. -/
theorem tel_inj {n : Nat} {L : Nat → Nat} {m lk rg : Nat} {mode : Int} {s r : Sx} (h1 : SOk n L m lk rg mode s) (h2 : SOk n L m lk rg mode r) (hm : 0 ≤ mode) (hf : s.fell = r.fell) (h : telX mode s = telX mode r) : s = r := by
  unfold telX telM at h
  simp only [List.append_assoc] at h
  obtain ⟨e1, e2⟩ := tel_ths (rg := rg) (by rw [h1.ths, h2.ths]) (fun x hx => by obtain ⟨t, ht, rfl⟩ := h1.mem hx; exact h1.regs t ht) (fun x hx => by obtain ⟨t, ht, rfl⟩ := h2.mem hx; exact h2.regs t ht) h
  obtain ⟨e3, e4⟩ := List.append_inj e2 (by rw [h1.words, h2.words])
  obtain ⟨e5, e6⟩ := List.append_inj e4 (by rw [h1.own, h2.own])
  have ew : (s.ths.map fun x => x.wait) = (r.ths.map fun x => x.wait) ∧ s.prints = r.prints := by
    by_cases h0 : 0 < mode
    · rw [if_pos h0, if_pos h0] at e6
      exact tel_buf (by rw [h1.ths, h2.ths]) (fun x hx y hy => by obtain ⟨t, ht, rfl⟩ := h1.mem hx; exact (h1.wok t ht y hy).1.1) (fun x hx y hy => by obtain ⟨t, ht, rfl⟩ := h2.mem hx; exact (h2.wok t ht y hy).1.1) e6
    · rw [if_neg h0, if_neg h0] at e6
      have hz : mode = 0 := by omega
      have e : ∀ (q : Sx), SOk n L m lk rg mode q → (q.ths.map fun x => x.wait) = List.replicate n [] := fun q hq => by
        rw [List.eq_replicate_iff]
        refine ⟨by rw [List.length_map, hq.ths], fun b hb => ?_⟩
        obtain ⟨x, hx, rfl⟩ := List.mem_map.mp hb
        obtain ⟨t, ht, rfl⟩ := hq.mem hx
        exact hq.bare hz t ht
      exact ⟨by rw [e s h1, e r h2], by simpa using e6⟩
  have et := ths_eq e1 ew.1
  have ep := ew.2
  cases s; cases r
  simp only at et e3 e5 ep hf
  subst et e3 e5 ep hf
  rfl

/-! What a state becomes; what runs come to. -/
section
variable (L : Nat → Nat) (X : Nat → Nat → Nat → Int) (mode : Int)
def nxX (s : Sx) : List Sx := (movesX L X mode s).filterMap fun mv => if (doX X mode s mv.toNat).fell then none else some (doX X mode s mv.toNat)
def outsX (s : Sx) : List Oc :=
  (if movesX L X mode s = [] then [⟨if endedX L s then 0 else 2, s.words, s.prints⟩] else []) ++
    (movesX L X mode s).filterMap fun mv => if (doX X mode s mv.toNat).fell then some ⟨1, [], (doX X mode s mv.toNat).prints⟩ else none
end
end

section
open Go.RowKit

section
variable {n : Nat} {L : Nat → Nat} {X : Nat → Nat → Nat → Int} {m lk rg : Nat} {mode : Int}
theorem moves_ended {s : Sx} (h : endedX L s = true) : movesX L X mode s = [] := by
  unfold movesX
  rw [List.flatMap_eq_nil_iff]
  intro t ht
  unfold endedX at h
  rw [List.all_eq_true] at h
  have h1 := h t ht
  rw [Bool.and_eq_true] at h1
  have hw : (thOf s t).wait = [] := List.isEmpty_iff.mp h1.2
  unfold movesT
  rw [hw]
  have ha : ableT L X s t = false := by unfold ableT; rw [if_pos h1.1]
  rw [ha]
  rfl
/-- What a move makes of a state that may be. -/
theorem move_ok {s : Sx} (h : SOk n L m lk rg mode s) (hc : COk n L X m lk rg) (hm : 0 ≤ mode) {mv : Int} (hmv : mv ∈ movesX L X mode s) : SOk n L m lk rg mode (doX X mode s mv.toNat) := by
  rcases movesX_mem hmv with ⟨t, ht, rfl, ha⟩ | ⟨t, k, ht, hk, rfl, _⟩
  · rw [show (8 * (t : Int)).toNat = 8 * t by omega]
    exact h.step hc hm (by rw [← h.ths]; exact ht) ha
  · rw [show (8 * (t : Int) + (k : Int) + 1).toNat = 8 * t + k + 1 by omega]
    exact h.wait (by rw [← h.ths]; exact ht) hk
theorem mem_nx {s t : Sx} : t ∈ nxX L X mode s ↔ ∃ mv, mv ∈ movesX L X mode s ∧ doX X mode s mv.toNat = t ∧ t.fell = false := by
  unfold nxX
  rw [List.mem_filterMap]
  constructor
  · rintro ⟨mv, h1, h2⟩
    cases hf : (doX X mode s mv.toNat).fell with
    | true => rw [hf] at h2; cases h2
    | false =>
      rw [hf] at h2
      have e : doX X mode s mv.toNat = t := Option.some.inj h2
      exact ⟨mv, h1, e, by rw [← e]; exact hf⟩
  · rintro ⟨mv, h1, h2, h3⟩
    exact ⟨mv, h1, by rw [h2, h3]; rfl⟩
end
section
variable {n : Nat} {L : Nat → Nat} {X : Nat → Nat → Nat → Int} {m lk rg : Nat}
end
end

section
open Go.RowKit

section
variable {S : Type} {nx : S → List S} {outs : S → List Oc} {s0 : S} {K : List S} {P P' : S → Prop} {E E' : Oc → Prop}
theorem Wk.begin : Wk nx outs s0 [s0] (fun _ => False) (fun _ => False) :=
  ⟨by simp, by simp, fun s h => by rw [List.mem_singleton.mp h]; exact .base, fun _ h => h.elim, fun _ h => h.elim, fun _ h => h.elim, fun _ h => h.elim⟩
theorem Wk.same (h : Wk nx outs s0 K P E) (hP : ∀ s, P' s ↔ P s) (hE : ∀ o, E' o ↔ E o) : Wk nx outs s0 K P' E' :=
  ⟨h.nodup, h.first, h.reach, fun s hs => h.known s ((hP s).1 hs), fun s hs => h.next s ((hP s).1 hs), fun o ho => h.ends o ((hE o).1 ho), fun s hs o ho => (hE o).2 (h.all s ((hP s).1 hs) o ho)⟩
/-- One state more. -/
theorem Wk.push (h : Wk nx outs s0 K P E) {x t : S} (hx : x ∈ K) (ht : t ∈ nx x) (hn : t ∉ K) : Wk nx outs s0 (K ++ [t]) P E where
  nodup := by
    rw [List.nodup_append]
    refine ⟨h.nodup, by simp, fun a ha b hb e => ?_⟩
    rw [List.mem_singleton.mp hb] at e
    exact hn (e ▸ ha)
  first := List.mem_append_left _ h.first
  reach s hs := by
    rcases List.mem_append.mp hs with hs | hs
    · exact h.reach s hs
    · rw [List.mem_singleton.mp hs]; exact .step (h.reach x hx) ht
  known s hs := List.mem_append_left _ (h.known s hs)
  next s hs t' ht' := List.mem_append_left _ (h.next s hs t' ht')
  ends := h.ends
  all := h.all
/-- One outcome more. -/
theorem Wk.out (h : Wk nx outs s0 K P E) {x : S} {o : Oc} (hx : x ∈ K) (ho : o ∈ outs x) (hE : ∀ y, E' y ↔ y = o ∨ E y) : Wk nx outs s0 K P E' :=
  ⟨h.nodup, h.first, h.reach, h.known, h.next, fun y hy => by
    rcases (hE y).1 hy with e | hy
    · rw [e]; exact ⟨x, h.reach x hx, ho⟩
    · exact h.ends y hy, fun s hs y hy => (hE y).2 (Or.inr (h.all s hs y hy))⟩
/-- One state has been gone through. -/
theorem Wk.gone (h : Wk nx outs s0 K P E) {x : S} (hx : x ∈ K) (hn : ∀ t, t ∈ nx x → t ∈ K) (ho : ∀ o, o ∈ outs x → E o) (hP : ∀ s, P' s → s = x ∨ P s) : Wk nx outs s0 K P' E :=
  ⟨h.nodup, h.first, h.reach, fun s hs => by
    rcases hP s hs with e | hs
    · rw [e]; exact hx
    · exact h.known s hs, fun s hs => by
    rcases hP s hs with e | hs
    · rw [e]; exact hn
    · exact h.next s hs, h.ends, fun s hs => by
    rcases hP s hs with e | hs
    · rw [e]; exact ho
    · exact h.all s hs⟩
end
section
variable {L : Nat → Nat} {X : Nat → Nat → Nat → Int} {mode : Int} {s : Sx}
theorem nx_none (h : movesX L X mode s = []) : nxX L X mode s = [] := by unfold nxX; rw [h]; rfl
theorem outs_none (h : movesX L X mode s = []) : outsX L X mode s = [⟨if endedX L s then 0 else 2, s.words, s.prints⟩] := by
  unfold outsX
  rw [h]
  rfl
/-- What was made of the first k moves. -/
def Mvd (L : Nat → Nat) (X : Nat → Nat → Nat → Int) (mode : Int) (s : Sx) (K : List Sx) (E : Oc → Prop) (k : Nat) : Prop :=
  ∀ j, j < k → ((doX X mode s ((movesX L X mode s).getD j 0).toNat).fell = true → E ⟨1, [], (doX X mode s ((movesX L X mode s).getD j 0).toNat).prints⟩) ∧ ((doX X mode s ((movesX L X mode s).getD j 0).toNat).fell = false → doX X mode s ((movesX L X mode s).getD j 0).toNat ∈ K)
theorem Mvd.next {K K' : List Sx} {E E' : Oc → Prop} {k : Nat} (h : Mvd L X mode s K E k) (hK : ∀ t, t ∈ K → t ∈ K') (hE : ∀ o, E o → E' o) (h1 : (doX X mode s ((movesX L X mode s).getD k 0).toNat).fell = true → E' ⟨1, [], (doX X mode s ((movesX L X mode s).getD k 0).toNat).prints⟩) (h2 : (doX X mode s ((movesX L X mode s).getD k 0).toNat).fell = false → doX X mode s ((movesX L X mode s).getD k 0).toNat ∈ K') : Mvd L X mode s K' E' (k + 1) := fun j hj => by
  rcases Nat.lt_or_ge j k with h3 | h3
  · exact ⟨fun hf => hE _ ((h j h3).1 hf), fun hf => hK _ ((h j h3).2 hf)⟩
  · obtain rfl : j = k := by omega
    exact ⟨h1, h2⟩
theorem mv_getD {l : List Int} {mv : Int} (h : mv ∈ l) : ∃ j, j < l.length ∧ l.getD j 0 = mv := by
  obtain ⟨j, hj, e⟩ := List.getElem_of_mem h
  exact ⟨j, hj, by rw [List.getD_eq_getElem?_getD, List.getElem?_eq_getElem hj]; exact e⟩
theorem getD_mv {l : List Int} {j : Nat} (h : j < l.length) : l.getD j 0 ∈ l := by
  rw [List.getD_eq_getElem?_getD, List.getElem?_eq_getElem h]
  exact List.getElem_mem h
theorem Mvd.nx {K : List Sx} {E : Oc → Prop} (h : Mvd L X mode s K E (movesX L X mode s).length) {t : Sx} (ht : t ∈ nxX L X mode s) : t ∈ K := by
  obtain ⟨mv, h1, h2, h3⟩ := mem_nx.mp ht
  obtain ⟨j, hj, rfl⟩ := mv_getD h1
  rw [← h2] at h3 ⊢
  exact (h j hj).2 h3
theorem Mvd.outs {K : List Sx} {E : Oc → Prop} (h : Mvd L X mode s K E (movesX L X mode s).length) (hm : movesX L X mode s ≠ []) {o : Oc} (ho : o ∈ outsX L X mode s) : E o := by
  unfold outsX at ho
  rw [if_neg hm, List.nil_append] at ho
  obtain ⟨mv, h1, h2⟩ := List.mem_filterMap.mp ho
  obtain ⟨j, hj, rfl⟩ := mv_getD h1
  cases hf : (doX X mode s ((movesX L X mode s).getD j 0).toNat).fell with
  | false => rw [hf] at h2; cases h2
  | true =>
    rw [hf] at h2
    rw [← Option.some.inj h2]
    exact (h j hj).1 hf
theorem fell_out {mv : Int} (h : mv ∈ movesX L X mode s) (hf : (doX X mode s mv.toNat).fell = true) : (⟨1, [], (doX X mode s mv.toNat).prints⟩ : Oc) ∈ outsX L X mode s := by
  unfold outsX
  refine List.mem_append_right _ (List.mem_filterMap.mpr ⟨mv, h, ?_⟩)
  rw [hf]
  rfl
end
end

section
open Go.RowKit

/-- The document's Check, of every program that lies in memory. -/
theorem rcheck_any (ca : Option Addr) (n cc : Nat) (wa : Option Addr) (m wc : Nat) (lk rg : Int) (A : Nat → Option Addr) (L C : Nat → Nat) (X : Nat → Nat → Nat → Int) (x y z : Int) (HR : Hid (chk n L X m lk rg = (x, y, z))) (w : World) (hp : PIn w ca n A L C X) :
    Calls Tryz.prog 9 #[prgV ca n cc wa m wc lk rg] w fun e w' => e = .returned (ints3 x y z) ∧ Below w.heap.size w w' := by
  have h := HR.out
  unfold chk sizesE at h
  by_cases h1 : (n : Int) < 1 ∨ 4 < (n : Int) ∨ 64 < (m : Int)
  · simp only [h1, if_true] at h
    simp at h
    obtain ⟨rfl, rfl, rfl⟩ := h
    exact rcheck_size ca n cc wa m wc lk rg h1 w
  · by_cases h2 : lk < 0 ∨ 4 < lk ∨ rg < 1 ∨ 200 < rg
    · simp only [h1, h2, if_true, if_false] at h
      simp at h
      obtain ⟨rfl, rfl, rfl⟩ := h
      exact rcheck_range ca n cc wa m wc lk rg (by omega) (by omega) h2 w
    · simp only [h1, h2, if_false, ne_eq, not_true_eq_false] at h
      exact rcheck_go ca n cc wa m wc lk rg A L C X x y z (by omega) (by omega) (by omega) (by omega) h w hp
end

end Go.Proofs.YtgofbkgfonlceabGreatDoor
