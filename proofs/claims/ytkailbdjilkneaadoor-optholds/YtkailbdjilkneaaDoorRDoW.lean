/-
  A move of the document's run that does one that waits; what can be picked, whichever the mode.
-/
import Derived.Test.YtkailbdjilkneaaDoorRDo4
namespace Go.Proofs.YtkailbdjilkneaaDoor
open Go.RowKit

/-- Cells that are stored one behind the other. -/
def putL (xs : List Value) (o : Nat) : List Value → List Value
  | [] => xs
  | u :: us => putL (xs.set o u) (o + 1) us
theorem fam_puts {B : Nat} {e : TypeId} {size : Nat} {v : Value} {n g : Nat} (hg : v.ownBlock = some g) : ∀ (us : List Value) (o : Nat) (w : World) (xs : List Value), w.ownsRow B e size v n xs → (w.setCells g o us).ownsRow B e size v n (putL xs o us)
  | [], _, _, _, h => h
  | u :: us, o, w, _, h => fam_puts hg us (o + 1) (w.setCell ⟨g, o, none⟩ u) _ (fam_put h hg o u)
theorem fam_shrink {w : World} {B : Nat} {e : TypeId} {size : Nat} {n m g cap : Nat} {xs : List Value} (h : w.ownsRow B e size (.slice (some ⟨g, 0, none⟩) n cap) n xs) (hm : m ≤ n) : w.ownsRow B e size (.slice (some ⟨g, 0, none⟩) m cap) m (xs.take (m * size)) := by
  obtain ⟨h0, h1⟩ := h
  have hmul : m * size ≤ n * size := Nat.mul_le_mul_right _ hm
  refine ⟨by rw [List.length_take, h0]; omega, ?_⟩
  rcases h1 with ⟨h1, _⟩ | ⟨g', cap', cur, hv, hg, hh, h2, h3, h4, h5⟩
  · simp at h1
  · simp only [Value.slice.injEq, Option.some.injEq, Addr.mk.injEq, and_true] at hv
    obtain ⟨rfl, _, rfl⟩ := hv
    exact Or.inr ⟨g, cap, cur, rfl, hg, hh, Nat.le_trans hm h2, h3, h4, by rw [← h5, List.take_take, Nat.min_eq_left hmul]⟩
theorem grown_puts (g : Nat) : ∀ (vs : List Value) (o : Nat) (w : World), w.grownBy (w.setCells g o vs) (some g)
  | [], _, _ => ⟨rfl, rfl, rfl, Nat.le_refl _, fun _ _ _ => rfl⟩
  | u :: us, o, w => by
    have h := grown_puts g us (o + 1) (w.setCell ⟨g, o, none⟩ u)
    have hz : (w.setCell ⟨g, o, none⟩ u).heap.size = w.heap.size := by simp [World.setCell]
    exact ⟨h.os, h.tape, h.output, by have := h.size; rw [hz] at this; exact this, fun k hk hne => (h.block k (by rw [hz]; exact hk) hne).trans (Below.heap_setCell _ _ _ _ (fun e => hne (by rw [e])))⟩
theorem waitV_1 (a : Wt) : waitV [a] = [.bool a.lk, .int .i64 a.wh, .int .i64 a.what] := waitV_snoc [] a
theorem waitV_2 (a b : Wt) : waitV [a, b] = [.bool a.lk, .int .i64 a.wh, .int .i64 a.what, .bool b.lk, .int .i64 b.wh, .int .i64 b.what] := by
  rw [show [a, b] = [a] ++ [b] from rfl, waitV_snoc, waitV_1]; rfl
theorem waitV_3 (a b c : Wt) : waitV [a, b, c] = [.bool a.lk, .int .i64 a.wh, .int .i64 a.what, .bool b.lk, .int .i64 b.wh, .int .i64 b.what, .bool c.lk, .int .i64 c.wh, .int .i64 c.what] := by
  rw [show [a, b, c] = [a, b] ++ [c] from rfl, waitV_snoc, waitV_2]; rfl
/-- One taken out of at most three that wait. -/
theorem waitV_cut {l : List Wt} {k : Nat} (hl : l.length ≤ 3) (hk : k < l.length) : (putL (waitV l) (k * 3) ((waitV l).drop ((k + 1) * 3))).take ((l.length - 1) * 3) = waitV (l.eraseIdx k) := by
  match l, k, hl, hk with
  | [a], 0, _, _ => rfl
  | [a, b], 0, _, _ => rw [waitV_2]; rw [show [a, b].eraseIdx 0 = [b] from rfl, waitV_1]; rfl
  | [a, b], 1, _, _ => rw [waitV_2]; rw [show [a, b].eraseIdx 1 = [a] from rfl, waitV_1]; rfl
  | [a, b, c], 0, _, _ => rw [waitV_3]; rw [show [a, b, c].eraseIdx 0 = [b, c] from rfl, waitV_2]; rfl
  | [a, b, c], 1, _, _ => rw [waitV_3]; rw [show [a, b, c].eraseIdx 1 = [a, c] from rfl, waitV_2]; rfl
  | [a, b, c], 2, _, _ => rw [waitV_3]; rw [show [a, b, c].eraseIdx 2 = [a, b] from rfl, waitV_2]; rfl
theorem waitC_one (x : Wt) (j : Nat) : (waitC x j).oneCell' = true := by
  unfold waitC
  split
  · rfl
  · split <;> rfl
theorem waitV_len (l : List Wt) : (waitV l).length = l.length * 3 := rows3_len _ _

/-- What can be picked: an order of a thread that is able, or one that waits and may be done. -/
theorem movesX_mem {L : Nat → Nat} {X : Nat → Nat → Nat → Int} {mode : Int} {s : Sx} {mv : Int} (h : mv ∈ movesX L X mode s) : (∃ t, t < s.ths.length ∧ mv = 8 * (t : Int) ∧ ableT L X s t = true) ∨ ∃ t k, t < s.ths.length ∧ k < (thOf s t).wait.length ∧ mv = 8 * (t : Int) + (k : Int) + 1 ∧ mayW mode (thOf s t).wait k = true := by
  unfold movesX at h
  rw [List.mem_flatMap] at h
  obtain ⟨t, ht, h⟩ := h
  have htn : t < s.ths.length := by simpa using ht
  unfold movesT at h
  rw [List.mem_append] at h
  rcases h with h | h
  · by_cases ha : ableT L X s t = true
    · rw [if_pos ha] at h
      exact Or.inl ⟨t, htn, by simpa using h, ha⟩
    · rw [if_neg ha] at h
      cases h
  · rw [List.mem_map] at h
    obtain ⟨k, hk, e⟩ := h
    rw [List.mem_filter] at hk
    exact Or.inr ⟨t, k, htn, by simpa using hk.1, e.symm, hk.2⟩
theorem doX_wait {X : Nat → Nat → Nat → Int} {mode : Int} {s : Sx} {t k : Nat} (hk : k < 7) : doX X mode s (8 * t + k + 1) = setTh (doneW s ((thOf s t).wait.getD k default)) t { thOf s t with wait := (thOf s t).wait.eraseIdx k } := by
  have hth : ∀ x, thOf (doneW s x) t = thOf s t := fun x => by unfold doneW; split <;> rfl
  unfold doX
  simp only [show (8 * t + k + 1) / 8 = t by omega, show (8 * t + k + 1) % 8 = k + 1 by omega]
  rw [if_pos (by omega)]
  simp only [Nat.add_sub_cancel, hth]
theorem SOk.wait {n : Nat} {L : Nat → Nat} {X : Nat → Nat → Nat → Int} {m lk rg : Nat} {mode : Int} {s : Sx} (h : SOk n L m lk rg mode s) {t k : Nat} (ht : t < n) (hk : k < (thOf s t).wait.length) : SOk n L m lk rg mode (doX X mode s (8 * t + k + 1)) := by
  have hw := h.wlen t ht
  rw [doX_wait (by omega)]
  have h1 := h.done ((thOf s t).wait.getD k default)
  refine h1.th ht (h.pc t ht) (h.regs t ht) ?_ (fun y hy => h.wok t ht y (List.mem_of_mem_eraseIdx hy)) (fun h0 => ?_)
  · have := List.length_eraseIdx_le (thOf s t).wait k
    show ((thOf s t).wait.eraseIdx k).length ≤ 3
    omega
  · show (thOf s t).wait.eraseIdx k = []
    rw [h.bare h0 t ht]; rfl
theorem prints_wait {X : Nat → Nat → Nat → Int} {mode : Int} {s : Sx} {t k : Nat} (hk : k < 7) : (doX X mode s (8 * t + k + 1)).prints = s.prints := by
  rw [doX_wait hk]
  show (doneW s _).prints = _
  unfold doneW
  split <;> rfl
theorem fell_wait {X : Nat → Nat → Nat → Int} {mode : Int} {s : Sx} {t k : Nat} (hk : k < 7) : (doX X mode s (8 * t + k + 1)).fell = s.fell := by
  rw [doX_wait hk]
  show (doneW s _).fell = _
  unfold doneW
  split <;> rfl

attribute [local go_sem ↓] appS_eq
set_option maxRecDepth 100000 in
set_option maxHeartbeats 3200000 in
theorem do_wait (w : World) (B sb : Nat) (P : Pg) (v : Rl → Value) (s : Sx) (L : Nat → Nat) (X : Nat → Nat → Nat → Int) (m lk rg t k : Nat) (hs : DSt w B P sb v s) (ho : SOk P.n L m lk rg P.mode s) (hn4 : P.n ≤ 4) (hm64 : m ≤ 64) (hlk4 : lk ≤ 4) (ht : t < P.n) (hk : k < (thOf s t).wait.length) :
    Calls Tryd.prog 81 #[.pointer (some ⟨sb, 0, none⟩), .int .i64 (8 * (t : Int) + (k : Int) + 1)] w (DoQ B sb P v w (doX X P.mode s (8 * t + k + 1))) := by
  have hw3 := ho.wlen t ht
  have hthn := ho.ths
  have htl : t < s.ths.length := by omega
  rw [doX_wait (by omega)]
  obtain ⟨tb, tc, hth, htb, hltb⟩ := hs.thrB (by omega)
  obtain ⟨qb, qc, hqv, hqb, hlqb⟩ := hs.waitB (t := t) (by omega)
  have c5 := hs.c5
  rw [hth, hthn] at c5
  have cq := hs.wait htb htl
  rw [hqv] at cq
  have hwin := hs.win hqv
  obtain ⟨b', o', e', x0, x1, x2⟩ := hwin k hk
  simp only [Option.some.injEq, Addr.mk.injEq, and_true] at e'
  obtain ⟨rfl, rfl⟩ := e'
  simp only [Nat.zero_add] at x0 x1 x2
  have hok := (ho.wok t ht ((thOf s t).wait.getD k default) (by simp [List.getD, hk])).1
  obtain ⟨y, hy⟩ : ∃ y, (thOf s t).wait.getD k default = y := ⟨_, rfl⟩
  rw [hy] at x0 x1 x2 hok ⊢
  have hthd : thOf (doneW s y) t = thOf s t := by unfold doneW; split <;> rfl
  have hlen : (doneW s y).ths.length = s.ths.length := by unfold doneW; split <;> rfl
  obtain ⟨nw, hnw⟩ : ∃ n, (thOf s t).wait.length = n := ⟨_, rfl⟩
  have HDN : Hid (∀ W, W.heap = w.heap → W.os = w.os → W.tape = w.tape → W.output = w.output → Calls Tryd.prog 116 #[.pointer (some ⟨sb, 0, none⟩), .agg #[.bool y.lk, .int .i64 y.wh, .int .i64 y.what]] W fun e w1 => e = .returned (.tuple #[]) ∧
      (w1.cell? ⟨sb, 5, none⟩ = some (.slice (some ⟨tb, 0, none⟩) P.n tc) ∧ w1.cell? ⟨tb, t * 3 + 2, none⟩ = some (.slice (some ⟨qb, 0, none⟩) nw qc) ∧ w1.frozen? ⟨tb, t * 3 + 2, none⟩ = false) ∧
      ∃ vs, ∀ W2, W2.heap = w1.heap → W2.os = w1.os → W2.tape = w1.tape → W2.output = w1.output → (W2.setCells qb (k * 3) vs).cell? ⟨tb, t * 3 + 2, none⟩ = some (.slice (some ⟨qb, 0, none⟩) nw qc) ∧ (W2.setCells qb (k * 3) vs).frozen? ⟨tb, t * 3 + 2, none⟩ = false ∧
        (∀ a2 c2, (0 < nw - (k + 1) → a2 = ⟨qb, (k + 1) * 3, none⟩) → (AppS #[189, 189] 189 #[.slice (some ⟨qb, 0, none⟩) k qc, .slice (some a2) (nw - (k + 1)) c2]).run Tryd.prog W2 = .ok (.slice (some ⟨qb, 0, none⟩) (nw - 1) qc) (W2.setCells qb (k * 3) vs)) ∧
        DoQ B sb P v w (setTh (doneW s y) t { thOf s t with wait := (thOf s t).wait.eraseIdx k }) (.returned (.tuple #[])) ((W2.setCells qb (k * 3) vs).setCell ⟨tb, t * 3 + 2, none⟩ (.slice (some ⟨qb, 0, none⟩) (nw - 1) qc))) := fun W e e1 e2 e3 => by
    refine (done_any W B sb P v s y (hs.same e) hok.1 (by rw [ho.words, ho.own]; exact hok.2) (by rw [ho.words]; exact hm64) (by rw [ho.own]; exact hlk4)).mono fun en w1 ⟨h1, h2, h3⟩ => ⟨h1, ⟨?_, ?_, h2.fam.frozen htb _⟩, (waitV (thOf s t).wait).drop ((k + 1) * 3), fun W2 g g1 g2 g3 => ?_⟩
    · have := h2.c5
      rwa [hth, hthn] at this
    · have := h2.wait htb (by rw [hlen]; exact htl)
      rwa [hqv, hnw] at this
    · have hD := h2.same g
      have hMv : Moved w W2 v v := Moved.same ((Moved.same (Moved.refl w v) e e1 e2 e3).trans h3) g g1 g2 g3
      have hown : W2.ownsRow B 199 3 (v (.wait t)) (thOf s t).wait.length (Go.Proofs.YtkailbdjilkneaaDoor.waitV (thOf s t).wait) := by
        have := hD.fam.own (.wait t)
        change W2.ownsRow B 199 3 (v (.wait t)) (thOf (doneW s y) t).wait.length (Go.Proofs.YtkailbdjilkneaaDoor.waitV (thOf (doneW s y) t).wait) at this
        rwa [hthd] at this
      have hputs := fam_puts hqb ((Go.Proofs.YtkailbdjilkneaaDoor.waitV (thOf s t).wait).drop ((k + 1) * 3)) (k * 3) W2 _ hown
      have hgr := grown_puts qb ((Go.Proofs.YtkailbdjilkneaaDoor.waitV (thOf s t).wait).drop ((k + 1) * 3)) (k * 3) W2
      have hwl : (Go.Proofs.YtkailbdjilkneaaDoor.waitV (thOf s t).wait).length = (thOf s t).wait.length * 3 := waitV_len _
      have hcut := waitV_cut hw3 hk
      have hel : ((thOf s t).wait.eraseIdx k).length = nw - 1 := by rw [List.length_eraseIdx, if_pos hk, hnw]
      rw [hqv] at hputs
      have hsh := fam_shrink hputs (m := (thOf s t).wait.length - 1) (by omega)
      rw [hcut, hnw, ← hel] at hsh
      have hDD := hD.newWait htb (by rw [hlen]; exact htl) (H := W2.heap.size) hsh (by rw [hqb]; exact hgr) (Or.inl hqb) (Nat.le_refl _)
      have hMM := (hMv.grow (r := .wait t) (g := qb) (m := ((thOf s t).wait.eraseIdx k).length) (c := qc) (H := W2.heap.size) (by rw [hqb]; exact hgr) (Or.inl hqb) (Nat.le_refl _)).put (r := .thr) (g := tb) (by rw [upd_ne _ _ (by simp)]; exact htb) (t * 3 + 2) (.slice (some ⟨qb, 0, none⟩) (nw - 1) qc)
      have hne : tb ≠ qb := hs.fam.ne htb hqb (by simp)
      have hltb2 : tb < W2.heap.size := hD.fam.lt htb
      have hblk := hgr.block tb hltb2 (fun e => hne (by simpa using e))
      rw [hthd, hel] at hDD
      rw [hel] at hMM
      refine ⟨(World.cell?_of_block hblk).trans ?_, (World.frozen?_of_block hblk).trans (hD.fam.frozen htb _), fun a2 c2 ha2 => ?_, ⟨rfl, _, hDD, hMM⟩⟩
      · have := hD.wait htb (by rw [hlen]; exact htl)
        rwa [hqv, hnw] at this
      · obtain ⟨i, hi, hz0, hz1, hz2⟩ := info_is infoWait
        have hnl : ((Go.Proofs.YtkailbdjilkneaaDoor.waitV (thOf s t).wait).drop ((k + 1) * 3)).length = (nw - (k + 1)) * 3 := by rw [List.length_drop, hwl, hnw]; omega
        have hcell : ∀ j, j < nw * 3 → ∃ u, (Go.Proofs.YtkailbdjilkneaaDoor.waitV (thOf s t).wait)[j]? = some u ∧ W2.cell? ⟨qb, j, none⟩ = some u := fun j hj => by
          have hj' : j < (Go.Proofs.YtkailbdjilkneaaDoor.waitV (thOf s t).wait).length := by rw [hwl, hnw]; exact hj
          exact ⟨_, List.getElem?_eq_getElem hj', fam_cell hown hqb (List.getElem?_eq_getElem hj')⟩
        have hone : ∀ u ∈ (Go.Proofs.YtkailbdjilkneaaDoor.waitV (thOf s t).wait).drop ((k + 1) * 3), u.oneCell' = true := fun u hu => by
          have := List.mem_of_mem_drop hu
          unfold Go.Proofs.YtkailbdjilkneaaDoor.waitV rows3 at this
          rw [List.mem_map] at this
          obtain ⟨j, _, rfl⟩ := this
          exact waitC_one _ _
        have hsrc : Src Tryd.prog i.size 189 (.slice (some a2) (nw - (k + 1)) c2) (nw - (k + 1)) ((Go.Proofs.YtkailbdjilkneaaDoor.waitV (thOf s t).wait).drop ((k + 1) * 3)) W2 := by
          rw [hz1]
          refine Src.ofSlice W2 Tryd.underlying189 a2 _ c2 _ hnl (fun j u hu => ?_) hone
          rw [List.getElem?_drop] at hu
          have hj : j < (nw - (k + 1)) * 3 := by
            rcases Nat.lt_or_ge j ((nw - (k + 1)) * 3) with h | h
            · exact h
            · rw [List.getElem?_eq_none (by rw [hwl, hnw]; omega)] at hu; cases hu
          have hadd : (⟨qb, (k + 1) * 3, none⟩ : Addr).add j = ⟨qb, (k + 1) * 3 + j, none⟩ := by unfold Addr.add; split <;> simp_all
          rw [ha2 (by omega), hadd]
          obtain ⟨u', g1, g2⟩ := hcell ((k + 1) * 3 + j) (by omega)
          rw [hu] at g1
          rw [g2, g1]
        have := run_append_room_src W2 189 189 189 199 i Tryd.underlying189 hi qb 0 k qc (.slice (some a2) (nw - (k + 1)) c2) (nw - (k + 1)) _ hsrc (by
          have := hown.2
          rw [hqv] at this
          rcases this with ⟨h0, _⟩ | ⟨g', cap', cur, hv', _, _, h5, _⟩
          · simp at h0
          · simp only [Value.slice.injEq, Option.some.injEq, Addr.mk.injEq, and_true] at hv'
            rw [hv'.2.2]; omega) (fun j hj => by
          rw [hnl] at hj
          obtain ⟨u', _, g2⟩ := hcell (0 + k * i.size + j) (by rw [hz1]; omega)
          rw [g2]; rfl) (fun j hj => fam_frozen hown hqb _)
        rw [hz1, Nat.zero_add, show k + (nw - (k + 1)) = nw - 1 by omega] at this
        exact this
  have hkk : (8 * (t : Int) + (k : Int) + 1) / 8 = (t : Int) := by omega
  have hkr : (8 * (t : Int) + (k : Int) + 1) % 8 = (k : Int) + 1 := by omega
  have hqc : nw ≤ qc := by
    have := (hs.fam.own (.wait t)).2
    rw [hqv] at this
    rcases this with ⟨h0, _⟩ | ⟨g', cap', cur, hv', _, _, h5, _⟩
    · simp at h0
    · simp only [Value.slice.injEq, Option.some.injEq, Addr.mk.injEq, and_true] at hv'
      rw [hv'.2.2, ← hnw]; exact h5
  obtain ⟨mv, hmv⟩ : ∃ x, 8 * (t : Int) + (k : Int) + 1 = x := ⟨_, rfl⟩
  have hmv0 : 0 ≤ mv := by omega
  have hmv1 : mv ≤ 1000 := by omega
  obtain ⟨lk', hlk'⟩ : ∃ x, y.lk = x := ⟨_, rfl⟩
  obtain ⟨wh', hwh'⟩ : ∃ x, y.wh = x := ⟨_, rfl⟩
  obtain ⟨wt', hwt'⟩ : ∃ x, y.what = x := ⟨_, rfl⟩
  rw [hmv] at hkk hkr ⊢
  rw [hlk'] at x0
  rw [hwh'] at x1
  rw [hwt'] at x2
  rw [hlk', hwh', hwt'] at HDN
  obtain ⟨n, hnn⟩ : ∃ n, P.n = n := ⟨_, rfl⟩
  rw [hnn] at c5 ht hn4 HDN
  rw [hnw] at cq hk hw3
  clear hs ho hth htb hqv hqb hwin hok hy hthd hlen hnw hmv hlk' hwh' hwt' hnn hthn htl
  go_enter Tryd.func81, Tryd.ntmps81
  go_wp2_with fail
  refine Calls.mono (HDN.out _ rfl rfl rfl rfl) ?_
  rintro e w1 ⟨rfl, ⟨d5, dq, df⟩, vs, HV⟩
  have HVV := Hid.out (p := Hid _) HV
  obtain ⟨hA, hB, hrun, hQ⟩ := HVV.out w1.drew rfl rfl rfl rfl
  have hr1 : (AppS #[189, 189] 189 #[.slice (some ⟨qb, 0, none⟩) k qc, .slice (if qc = k + 1 then some ⟨qb, 0, none⟩ else some ⟨qb, (k + 1) * 3, none⟩) (nw - (k + 1)) (qc - (k + 1))]).run Tryd.prog w1.drew = .ok (.slice (some ⟨qb, 0, none⟩) (nw - 1) qc) (w1.drew.setCells qb (k * 3) vs) := by
    split
    · exact hrun ⟨qb, 0, none⟩ _ (fun h => by omega)
    · exact hrun ⟨qb, (k + 1) * 3, none⟩ _ (fun _ => rfl)
  have HQ := Hid.out (p := Hid _) hQ
  clear HV HDN hQ hrun
  go_wp2
  go_region
  all_goals go_wp2
  all_goals go_end0
  all_goals refine ⟨rfl, ?_⟩
  all_goals first | exact HQ.out.2 | (have hq2 := HQ.out.2; simp only [‹qc = k + 1›] at hq2; exact hq2)

/-- What can be picked can be done, whichever the mode. -/
theorem doOk_any {P : Pg} (hm : 0 ≤ P.mode) {A : Nat → Option Addr} {L C : Nat → Nat} {X : Nat → Nat → Nat → Int} {m lk rg : Nat} (hc : COk P.n L X m lk rg) : DoOk P A L C X m lk rg := by
  intro w B sb v s mv hs hB ho hp hpr hmv
  rcases movesX_mem hmv with ⟨t, ht, rfl, ha⟩ | ⟨t, k, ht, hk, rfl, _⟩
  · have ht' : t < P.n := by rw [← ho.ths]; exact ht
    have hx : Cx w B sb P v s A L C X m lk rg t := ⟨ht', hs, hB, ho, hc, hp, able_lt ha, hpr, hm⟩
    have e : (8 * (t : Int)).toNat = 8 * t := by omega
    rw [e]
    exact ⟨do_order w B sb P v s A L C X m lk rg t hx, ho.step hc hm ht' ha, prints_step⟩
  · have ht' : t < P.n := by rw [← ho.ths]; exact ht
    have hw := ho.wlen t ht'
    have e : (8 * (t : Int) + (k : Int) + 1).toNat = 8 * t + k + 1 := by omega
    rw [e]
    exact ⟨do_wait w B sb P v s L X m lk rg t k hs ho hc.n4 hc.m64 hc.lk4 ht' hk, ho.wait ht' hk, by rw [prints_wait (by omega)]; omega⟩

end Go.Proofs.YtkailbdjilkneaaDoor
