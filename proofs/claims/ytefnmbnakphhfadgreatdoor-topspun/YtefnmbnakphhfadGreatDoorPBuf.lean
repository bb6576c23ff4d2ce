/-
  The memory with buffers: its rows, what waits of a thread, whether it is able, what is put behind.
  The memory with buffers: what is put behind what waits; what waits is told; one that waits is taken out and done.
  The memory with buffers: whether a lock waits to become free; one that waits is taken out and done.
-/
import Derived.Test.YtefnmbnakphhfadGreatDoorPNew
import Derived.Test.YtefnmbnakphhfadGreatDoorWorkP
namespace Go.Proofs.YtefnmbnakphhfadGreatDoor
section
open Go.RowKit

def bufK : Mk where
  bf := true
  mode := 1
  tid := 64
  bty := 101
  lty := 207
  sty := 212
  able := 135
  load := 139
  store := 141
  unlock := 144
  waiting := 145
  finish := 137
section
variable {w w1 : World} {B : Nat} {Q : Cd} {sb mb : Nat} {v : Rp → Value} {s : Sx}
theorem buf_top (h : Q.K = bufK) (mb : Nat) : Q.top mb = Q.bb := by unfold Cd.top; rw [h]; rfl
theorem buf_bf (h : Q.K = bufK) : Q.K.bf = true := by rw [h]; rfl
theorem QSt.bbox (h : QSt w B Q sb mb v s) (hb : Q.K.bf = true) : (v .box).ownBlock = some Q.bb := by rw [h.box hb]; rfl
theorem QSt.b0 (h : QSt w B Q sb mb v s) (hb : Q.K.bf = true) : w.cell? ⟨Q.bb, 0, none⟩ = some (.pointer (some ⟨mb, 0, none⟩)) := h.fam.cell (h.bbox hb) (by simp only [pX, hb]; rfl)
theorem QSt.b1 (h : QSt w B Q sb mb v s) (hb : Q.K.bf = true) : w.cell? ⟨Q.bb, 1, none⟩ = some (v .bufs) := h.fam.cell (h.bbox hb) (by simp only [pX, hb]; rfl)
theorem QSt.bufsB (h : QSt w B Q sb mb v s) (hb : Q.K.bf = true) (hn : 0 < Q.nt) : ∃ lb lc, v .bufs = .slice (some ⟨lb, 0, none⟩) Q.nt lc ∧ (v .bufs).ownBlock = some lb ∧ lb < w.heap.size := by
  have e : pN Q s .bufs = Q.nt := by simp only [pN, hb]; rfl
  obtain ⟨g, c, h1, h2, h3⟩ := h.blk .bufs (by rw [e]; exact hn)
  rw [e] at h1
  exact ⟨g, c, h1, h2, h3⟩
theorem QSt.bufc (h : QSt w B Q sb mb v s) (hb : Q.K.bf = true) {lb t : Nat} (e : (v .bufs).ownBlock = some lb) (ht : t < Q.nt) : w.cell? ⟨lb, t, none⟩ = some (v (.buf t)) := h.fam.cell e (by simp [pX, hb, ht])
theorem QSt.bufO (h : QSt w B Q sb mb v s) (hb : Q.K.bf = true) (t : Nat) : w.ownsRow B Q.K.sty 3 (v (.buf t)) (thOf s t).wait.length (waitV (thOf s t).wait) := by
  have := h.fam.own (.buf t)
  simp only [pN, pX, hb, if_true] at this
  exact this
theorem QSt.bufV (h : QSt w B Q sb mb v s) (hb : Q.K.bf = true) (t : Nat) : ∃ a c, v (.buf t) = .slice a (thOf s t).wait.length c := fam_form (h.bufO hb t)
/-- What waits of a thread is another list. -/
theorem QSt.newBuf (h : QSt w B Q sb mb v s) (hb : Q.K.bf = true) {lb t : Nat} (e : (v .bufs).ownBlock = some lb) (ht : t < s.ths.length) (htn : t < Q.nt) {g c H : Nat} {l : List Wt} (hown : w1.ownsRow B Q.K.sty 3 (.slice (some ⟨g, 0, none⟩) l.length c) l.length (waitV l)) (hgrow : w.grownBy w1 (v (.buf t)).ownBlock) (hat : (v (.buf t)).ownBlock = some g ∨ g = H) (hH : w.heap.size ≤ H) :
    QSt (w1.setCell ⟨lb, t, none⟩ (.slice (some ⟨g, 0, none⟩) l.length c)) B Q sb mb (upd v (.buf t) (.slice (some ⟨g, 0, none⟩) l.length c)) (setTh s t { thOf s t with wait := l }) := by
  obtain ⟨x, hx⟩ : ∃ x : Value, x = .slice (some ⟨g, 0, none⟩) l.length c := ⟨_, rfl⟩
  have hnn : ∀ q, q ≠ .buf t → pN Q (setTh s t { thOf s t with wait := l }) q = pN Q s q := fun q hq => by
    cases q with
    | thr => exact ths_set _ _ _
    | regs u =>
      show (thOf (setTh s t _) u).regs.length = (thOf s u).regs.length
      rw [thOf_set ht]
      split
      · rename_i h; rw [h]
      · rfl
    | buf u =>
      show (if Q.K.bf then (thOf (setTh s t _) u).wait.length else 0) = if Q.K.bf then (thOf s u).wait.length else 0
      have hu : ¬ u = t := fun e => hq (by rw [e])
      rw [thOf_set ht, if_neg hu]
    | st => rfl
    | words => rfl
    | own => rfl
    | prints => rfl
    | mem => rfl
    | box => rfl
    | bufs => rfl
  have h1 := h.fam.grow (r := .buf t) (n1 := pN Q (setTh s t { thOf s t with wait := l })) (xs1 := fun q => if q = .buf t then waitV l else pX Q mb v s q) hown hgrow hat hH (by show (if Q.K.bf then (thOf (setTh s t _) t).wait.length else 0) = _; rw [thOf_set ht, if_pos rfl, hb]; rfl) hnn (if_pos rfl) (fun q hq => if_neg hq)
  rw [← hx] at h1 ⊢
  refine ⟨h1.put (r := .bufs) (by rw [upd_ne _ _ (by simp)]; exact e) t _ (fun q => rfl) ?_ (fun q hq => ?_), by rw [upd_ne _ _ (by simp)]; exact h.st, by rw [upd_ne _ _ (by simp)]; exact h.mem, fun hbf => by rw [upd_ne _ _ (by simp)]; exact h.box hbf⟩
  · rw [if_neg (by simp)]
    simp only [pX, hb, if_true]
    refine List.ext_getElem? fun i => ?_
    rw [List.getElem?_set]
    by_cases hi : i < Q.nt
    · by_cases hit : t = i
      · subst hit; simp [htn, upd_self]
      · simp [hi, hit]
        rw [upd_ne _ _ (by simp; exact fun e => hit e.symm)]
    · have : ¬ t = i := by omega
      simp [hi, this]
  · cases q with
    | bufs => exact absurd rfl hq
    | buf u =>
      show (if Q.K.bf then waitV (thOf (setTh s t _) u).wait else []) = _
      rw [hb, if_pos rfl, thOf_set ht]
      by_cases hu : u = t
      · rw [if_pos hu, if_pos (by rw [hu])]
      · rw [if_neg hu, if_neg (by simpa using hu)]
        simp only [pX, hb, if_true]
    | st =>
      rw [if_neg (by simp)]
      simp only [pX]
      rw [upd_ne _ _ (by simp), upd_ne _ _ (by simp)]
    | thr =>
      rw [if_neg (by simp)]
      show rows3 (setTh s t _).ths.length (pthC Q _ (setTh s t _)) = rows3 s.ths.length (pthC Q v s)
      rw [ths_set]
      refine rows3_congr fun a b _ => ?_
      unfold pthC
      rw [thOf_set ht, upd_ne _ _ (by simp)]
      by_cases h1 : a = t
      · subst h1; rw [if_pos rfl]
      · rw [if_neg h1]
    | regs u =>
      rw [if_neg (by simp)]
      show intsV (thOf (setTh s t _) u).regs = intsV (thOf s u).regs
      rw [thOf_set ht]
      split
      · rename_i e; subst e; rfl
      · rfl
    | mem =>
      rw [if_neg (by simp)]
      simp only [pX]
      rw [upd_ne _ _ (by simp), upd_ne _ _ (by simp)]
    | box =>
      rw [if_neg (by simp)]
      simp only [pX]
      rw [upd_ne _ _ (by simp)]
    | words => rw [if_neg (by simp)]; rfl
    | own => rw [if_neg (by simp)]; rfl
    | prints => rw [if_neg (by simp)]; rfl
end

set_option maxRecDepth 100000 in
set_option maxHeartbeats 1600000 in
theorem bable_any (w : World) (B : Nat) (Q : Cd) (sb mb : Nat) (v : Rp → Value) (s : Sx) (t : Nat) (op a b c : Int) (hK : Q.K = bufK) (hp : MPre w B Q sb mb v s t) (ha : op = 17 → 0 ≤ a ∧ a < (s.own.length : Int)) :
    Calls Tryz.prog 135 #[.pointer (some ⟨Q.bb, 0, none⟩), .int .i64 t, ints4 op a b c] w fun e w' => e = .returned (.bool (ableO s.own (thOf s t).wait.length op a)) ∧ Below w.heap.size w w' := by
  have hb := buf_bf hK
  have hs := hp.hs
  have hnt := hp.hn
  have htl := hp.ht
  have hw3 := hp.hw
  have hn4 := hp.h4
  obtain ⟨lb, lc, hlv, hlb, _⟩ := hs.bufsB hb (by omega)
  obtain ⟨qa, qc, hq⟩ := hs.bufV hb t
  have b0 := cell_up (hs.b0 hb)
  have b1 := cell_up (hs.b1 hb)
  rw [hlv] at b1
  have bq := cell_up (hs.bufc hb hlb (t := t) (by omega))
  rw [hq] at bq
  have HPA : Hid (∀ o W, W.heap = (w.alloc o).heap → W.os = w.os → W.tape = w.tape → W.output = w.output → Calls Tryz.prog 147 #[.pointer (some ⟨mb, 0, none⟩), .int .i64 t, ints4 op a b c] W fun e w' => e = .returned (.bool (ableO s.own 0 op a)) ∧ Below w.heap.size w w' ∧ Below W.heap.size W w') := fun o W e e1 e2 e3 =>
    (pable_any W B Q sb mb v s t op a b c ((hs.alloc o).same e) hp.hl ha).mono fun en w' h => ⟨h.1, by
      have hb0 : Below w.heap.size w W := ⟨e1, e2, e3, by rw [e]; simp, fun k hk => by rw [e]; exact Below.heap_alloc _ _ _ hk⟩
      exact hb0.trans (h.2.mono hb0.size), h.2⟩
  obtain ⟨k, hk⟩ : ∃ k, (thOf s t).wait.length = k := ⟨_, rfl⟩
  rw [hk] at bq hw3 ⊢
  obtain ⟨n, hn⟩ : ∃ n, Q.nt = n := ⟨_, rfl⟩
  rw [hn] at b1 hnt
  have htn : t < n := by omega
  have hn44 : n ≤ 4 := by omega
  obtain ⟨r, hr0⟩ : ∃ r, ableO s.own k op a = r := ⟨_, rfl⟩
  have HR : Hid (ableO s.own k op a = r) := hr0
  rw [hr0]
  have fin : ∀ o, Below w.heap.size w (w.alloc o) := fun o => (Below.refl _ _).alloc (Nat.le_refl _) o
  clear hr0 hp hs hlv hlb hq hk hn hnt htl hn4 ha
  by_cases h1 : op = 9 ∨ op = 11 ∨ op = 18
  · have hr : ableO s.own k op a = decide (k < 3) := by unfold ableO; rw [if_pos h1]
    have hr' := HR.out.symm.trans hr
    clear hr HR
    rcases h1 with rfl | rfl | rfl
    all_goals
      go_enter Tryz.func135, Tryz.ntmps135
      go_wp2
      go_ret
      exact ⟨ret_bool (by rw [hr']; exact decide_eq_decide.2 (by omega)), fin _⟩
  · by_cases h2 : op = 12 ∨ op = 13 ∨ op = 17
    · by_cases hk0 : k = 0
      · subst hk0
        have HRR : Hid (r = ableO s.own 0 op a) := HR.out.symm
        clear HR
        rcases h2 with rfl | rfl | rfl
        · have hO : ∀ i u, (#[Value.int .i64 12, .int .i64 a, .int .i64 b, .int .i64 c] : Array Value)[i]? = some u → (w.alloc (.cells #[.int .i64 12, .int .i64 a, .int .i64 b, .int .i64 c] 37)).cell? ⟨w.heap.size, i, none⟩ = some u := fun i u h => by rw [World.cell?_alloc_new, h]
          have o0 := hO 0 _ rfl
          have o1 := hO 1 _ rfl
          have o2 := hO 2 _ rfl
          have o3 := hO 3 _ rfl
          have d0 := b0 (.cells #[.int .i64 12, .int .i64 a, .int .i64 b, .int .i64 c] 37)
          clear hO
          go_enter Tryz.func135, Tryz.ntmps135
          go_wp2_with (fail)
          go_region_held3 (fun w' => w'.cell? ⟨Q.bb, 0, none⟩ = some (.pointer (some ⟨mb, 0, none⟩)) ∧ w'.cell? ⟨w.heap.size, 0, none⟩ = some (.int .i64 12) ∧ w'.cell? ⟨w.heap.size, 1, none⟩ = some (.int .i64 a) ∧ w'.cell? ⟨w.heap.size, 2, none⟩ = some (.int .i64 b) ∧ w'.cell? ⟨w.heap.size, 3, none⟩ = some (.int .i64 c)) (refine ⟨?_, ?_, ?_, ?_, ?_⟩ <;> (first | assumption | (refine cell_drew ?_; assumption))) ((go_at_call 147; refine Calls.mono (HPA.out _ _ rfl rfl rfl rfl) ?_; rintro e w1 ⟨rfl, hb1, hb2⟩; have z0 := (hb2.cell (p := ⟨Q.bb, 0, none⟩) (lt_of_cell d0)).trans d0; have z1 := (hb2.cell (p := ⟨w.heap.size, 0, none⟩) (lt_of_cell o0)).trans o0; have z2 := (hb2.cell (p := ⟨w.heap.size, 1, none⟩) (lt_of_cell o1)).trans o1; have z3 := (hb2.cell (p := ⟨w.heap.size, 2, none⟩) (lt_of_cell o2)).trans o2; have z4 := (hb2.cell (p := ⟨w.heap.size, 3, none⟩) (lt_of_cell o3)).trans o3))
          all_goals go_wp2
          all_goals go_ret
          all_goals exact ⟨by rw [HRR.out]; rfl, hb1⟩
        · have hO : ∀ i u, (#[Value.int .i64 13, .int .i64 a, .int .i64 b, .int .i64 c] : Array Value)[i]? = some u → (w.alloc (.cells #[.int .i64 13, .int .i64 a, .int .i64 b, .int .i64 c] 37)).cell? ⟨w.heap.size, i, none⟩ = some u := fun i u h => by rw [World.cell?_alloc_new, h]
          have o0 := hO 0 _ rfl
          have o1 := hO 1 _ rfl
          have o2 := hO 2 _ rfl
          have o3 := hO 3 _ rfl
          have d0 := b0 (.cells #[.int .i64 13, .int .i64 a, .int .i64 b, .int .i64 c] 37)
          clear hO
          go_enter Tryz.func135, Tryz.ntmps135
          go_wp2_with (fail)
          go_region_held3 (fun w' => w'.cell? ⟨Q.bb, 0, none⟩ = some (.pointer (some ⟨mb, 0, none⟩)) ∧ w'.cell? ⟨w.heap.size, 0, none⟩ = some (.int .i64 13) ∧ w'.cell? ⟨w.heap.size, 1, none⟩ = some (.int .i64 a) ∧ w'.cell? ⟨w.heap.size, 2, none⟩ = some (.int .i64 b) ∧ w'.cell? ⟨w.heap.size, 3, none⟩ = some (.int .i64 c)) (refine ⟨?_, ?_, ?_, ?_, ?_⟩ <;> (first | assumption | (refine cell_drew ?_; assumption))) ((go_at_call 147; refine Calls.mono (HPA.out _ _ rfl rfl rfl rfl) ?_; rintro e w1 ⟨rfl, hb1, hb2⟩; have z0 := (hb2.cell (p := ⟨Q.bb, 0, none⟩) (lt_of_cell d0)).trans d0; have z1 := (hb2.cell (p := ⟨w.heap.size, 0, none⟩) (lt_of_cell o0)).trans o0; have z2 := (hb2.cell (p := ⟨w.heap.size, 1, none⟩) (lt_of_cell o1)).trans o1; have z3 := (hb2.cell (p := ⟨w.heap.size, 2, none⟩) (lt_of_cell o2)).trans o2; have z4 := (hb2.cell (p := ⟨w.heap.size, 3, none⟩) (lt_of_cell o3)).trans o3))
          all_goals go_wp2
          all_goals go_ret
          all_goals exact ⟨by rw [HRR.out]; rfl, hb1⟩
        · have hO : ∀ i u, (#[Value.int .i64 17, .int .i64 a, .int .i64 b, .int .i64 c] : Array Value)[i]? = some u → (w.alloc (.cells #[.int .i64 17, .int .i64 a, .int .i64 b, .int .i64 c] 37)).cell? ⟨w.heap.size, i, none⟩ = some u := fun i u h => by rw [World.cell?_alloc_new, h]
          have o0 := hO 0 _ rfl
          have o1 := hO 1 _ rfl
          have o2 := hO 2 _ rfl
          have o3 := hO 3 _ rfl
          have d0 := b0 (.cells #[.int .i64 17, .int .i64 a, .int .i64 b, .int .i64 c] 37)
          clear hO
          go_enter Tryz.func135, Tryz.ntmps135
          go_wp2_with (fail)
          go_region_held3 (fun w' => w'.cell? ⟨Q.bb, 0, none⟩ = some (.pointer (some ⟨mb, 0, none⟩)) ∧ w'.cell? ⟨w.heap.size, 0, none⟩ = some (.int .i64 17) ∧ w'.cell? ⟨w.heap.size, 1, none⟩ = some (.int .i64 a) ∧ w'.cell? ⟨w.heap.size, 2, none⟩ = some (.int .i64 b) ∧ w'.cell? ⟨w.heap.size, 3, none⟩ = some (.int .i64 c)) (refine ⟨?_, ?_, ?_, ?_, ?_⟩ <;> (first | assumption | (refine cell_drew ?_; assumption))) ((go_at_call 147; refine Calls.mono (HPA.out _ _ rfl rfl rfl rfl) ?_; rintro e w1 ⟨rfl, hb1, hb2⟩; have z0 := (hb2.cell (p := ⟨Q.bb, 0, none⟩) (lt_of_cell d0)).trans d0; have z1 := (hb2.cell (p := ⟨w.heap.size, 0, none⟩) (lt_of_cell o0)).trans o0; have z2 := (hb2.cell (p := ⟨w.heap.size, 1, none⟩) (lt_of_cell o1)).trans o1; have z3 := (hb2.cell (p := ⟨w.heap.size, 2, none⟩) (lt_of_cell o2)).trans o2; have z4 := (hb2.cell (p := ⟨w.heap.size, 3, none⟩) (lt_of_cell o3)).trans o3))
          all_goals go_wp2
          all_goals go_ret
          all_goals exact ⟨by rw [HRR.out]; rfl, hb1⟩
      · have hr : ableO s.own k op a = false := by
          unfold ableO
          rw [if_neg h1]
          rcases h2 with h | h | h
          · rw [if_pos (Or.inl h)]; simpa using hk0
          · rw [if_pos (Or.inr h)]; simpa using hk0
          · rw [if_neg (by omega), if_pos h]; simp [hk0]
        have hr' := HR.out.symm.trans hr
        clear hr HR
        subst hr'
        have hd : decide (k = 0) = false := by simpa using hk0
        rcases h2 with rfl | rfl | rfl
        all_goals
          go_enter Tryz.func135, Tryz.ntmps135
          go_wp2
          go_quiet (fail)
          go_wp2
          go_ret
          exact ⟨rfl, below_drewN (fin _)⟩
    · have hr : ableO s.own k op a = true := by unfold ableO; rw [if_neg h1, if_neg (fun h => h2 (by rcases h with h | h <;> simp [h])), if_neg (fun h => h2 (Or.inr (Or.inr h)))]
      have hr' := HR.out.symm.trans hr
      clear hr HR
      subst hr'
      have n9 : ¬ op = 9 := fun e => h1 (Or.inl e)
      have n11 : ¬ op = 11 := fun e => h1 (Or.inr (Or.inl e))
      have n18 : ¬ op = 18 := fun e => h1 (Or.inr (Or.inr e))
      have n12 : ¬ op = 12 := fun e => h2 (Or.inl e)
      have n13 : ¬ op = 13 := fun e => h2 (Or.inr (Or.inl e))
      have n17 : ¬ op = 17 := fun e => h2 (Or.inr (Or.inr e))
      go_enter Tryz.func135, Tryz.ntmps135
      go_wp2
      go_ret
      exact ⟨rfl, fin _⟩
end

section
open Go.RowKit

theorem infoStore : (Tryz.prog.info? 212).map (fun i => (i.zero, i.size, i.bytes)) = some (some (.agg #[.bool false, .int .i64 0, .int .i64 0]), 3, 24) := by kernel_rfl

attribute [local go_sem ↓] appS_eq
set_option maxRecDepth 100000 in
set_option maxHeartbeats 1600000 in
theorem put_any (w : World) (B : Nat) (Q : Cd) (sb mb : Nat) (v : Rp → Value) (s : Sx) (t : Nat) (x : Wt) (hK : Q.K = bufK) (hp : MPre w B Q sb mb v s t) (hw : (thOf s t).wait.length < 3) :
    Calls Tryz.prog 154 #[.pointer (some ⟨Q.bb, 0, none⟩), .int .i64 t, .agg #[.bool x.lk, .int .i64 x.wh, .int .i64 x.what]] w (ChgQ B Q sb mb v w (storeW 1 s t x) (.tuple #[])) := by
  have hst : storeW 1 s t x = setTh s t { thOf s t with wait := (thOf s t).wait ++ [x] } := by unfold storeW; rw [if_pos (by omega)]
  rw [hst]
  have hb := buf_bf hK
  have hs := hp.hs
  have hnt := hp.hn
  have htl := hp.ht
  have hn4 := hp.h4
  have hB := hp.hB
  obtain ⟨lk, wh, what⟩ := x
  simp only
  obtain ⟨lb, lc, hlv, hlb, hllb⟩ := hs.bufsB hb (by omega)
  obtain ⟨qa, qc, hq⟩ := hs.bufV hb t
  have b1 := hs.b1 hb
  rw [hlv] at b1
  have bq := hs.bufc hb hlb (t := t) (by omega)
  rw [hq] at bq
  have bf := hs.fam.frozen hlb t
  have hsty : Q.K.sty = 212 := by rw [hK]; rfl
  have hbelow : Below w.heap.size w (w.alloc (.cells #[.bool lk, .int .i64 wh, .int .i64 what] 212)).drew := ((Below.refl _ _).alloc (Nat.le_refl _) _).drew
  have hown := hs.bufO hb t
  rw [hsty] at hown
  obtain ⟨g, cap, w3, hr1, hr2, hr3, hr4⟩ := app_row (T := 207) Tryz.underlying207 infoStore rfl (by omega) hown hbelow hB 1 #[.bool lk, .int .i64 wh, .int .i64 what] rfl (by simp [Value.oneCell']) (by omega) (by omega) (by omega)
  have hne1 : some Q.bb ≠ (v (.buf t)).ownBlock := fun e => absurd (hs.fam.apart _ _ Q.bb (hs.bbox hb) e.symm) (by simp)
  have hne2 : some lb ≠ (v (.buf t)).ownBlock := fun e => absurd (hs.fam.apart _ _ lb hlb e.symm) (by simp)
  have q1 := hr3.cell (cell_up2 b1 (.cells #[.bool lk, .int .i64 wh, .int .i64 what] 212) (.cells #[.bool lk, .int .i64 wh, .int .i64 what] 212)) hne1
  have qq := hr3.cell (cell_up2 bq (.cells #[.bool lk, .int .i64 wh, .int .i64 what] 212) (.cells #[.bool lk, .int .i64 wh, .int .i64 what] 212)) hne2
  have qf : w3.frozen? ⟨lb, t, none⟩ = false := (hr3.frozen_far ⟨lb, t, none⟩ (by simp; omega) hne2).trans (frozen_up2 hllb bf _ _)
  have hlen : ((thOf s t).wait ++ [(⟨lk, wh, what⟩ : Wt)]).length = (thOf s t).wait.length + 1 := by simp
  have hcells : waitV (thOf s t).wait ++ #[Value.bool lk, .int .i64 wh, .int .i64 what].toList = waitV ((thOf s t).wait ++ [⟨lk, wh, what⟩]) := by rw [waitV_snoc]
  rw [hcells] at hr2
  have hr2' : w3.ownsRow B Q.K.sty 3 (.slice (some ⟨g, 0, none⟩) ((thOf s t).wait ++ [(⟨lk, wh, what⟩ : Wt)]).length cap) ((thOf s t).wait ++ [(⟨lk, wh, what⟩ : Wt)]).length (waitV ((thOf s t).wait ++ [⟨lk, wh, what⟩])) := by rw [hlen, hsty]; exact hr2
  have hbel2 : Below w.heap.size w ((w.alloc (.cells #[.bool lk, .int .i64 wh, .int .i64 what] 212)).drew.alloc (.cells #[.bool lk, .int .i64 wh, .int .i64 what] 212)) := hbelow.alloc hbelow.size _
  have hD := (hs.below hbel2).newBuf hb hlb htl (by omega) hr2' hr3 hr4 (by simp)
  have hM := ((Moved.of_below (v := v) hbel2).grow (r := .buf t) (m := (thOf s t).wait.length + 1) (c := cap) hr3 hr4 (by simp)).put (r := .bufs) (g := lb) (by rw [upd_ne _ _ (by simp)]; exact hlb) t (.slice (some ⟨g, 0, none⟩) ((thOf s t).wait.length + 1) cap)
  rw [hlen] at hD
  have HF : Hid (ChgQ B Q sb mb v w (setTh s t { thOf s t with wait := (thOf s t).wait ++ [⟨lk, wh, what⟩] }) (.tuple #[]) (.returned (.tuple #[])) (w3.setCell ⟨lb, t, none⟩ (.slice (some ⟨g, 0, none⟩) ((thOf s t).wait.length + 1) cap))) := ⟨rfl, _, hD, hM, upd_ne _ _ (by simp), upd_ne _ _ (by simp), upd_ne _ _ (by simp), fun u => upd_ne _ _ (by simp)⟩
  have hrun : (AppS #[207, 207] 207 #[.slice qa (thOf s t).wait.length qc, .slice (some ⟨w.heap.size + 1, 0, none⟩) 1 1]).run Tryz.prog ((w.alloc (.cells #[.bool lk, .int .i64 wh, .int .i64 what] 212)).alloc (.cells #[.bool lk, .int .i64 wh, .int .i64 what] 212)).drew = .ok (.slice (some ⟨g, 0, none⟩) ((thOf s t).wait.length + 1) cap) w3 := by
    have e : (w.alloc (.cells #[.bool lk, .int .i64 wh, .int .i64 what] 212)).drew.heap.size = w.heap.size + 1 := by simp
    rw [hq, e] at hr1
    exact hr1
  have k1 := cell_up b1
  have kq := cell_up bq
  have k12 := cell_up2 b1
  have kq2 := cell_up2 bq
  obtain ⟨n, hn⟩ : ∃ m, Q.nt = m := ⟨_, rfl⟩
  rw [hn] at b1 k1 k12 q1 hnt
  have htn : t < n := by omega
  have hn44 : n ≤ 4 := by omega
  obtain ⟨k, hk⟩ : ∃ m, (thOf s t).wait.length = m := ⟨_, rfl⟩
  rw [hk] at bq kq kq2 qq hrun HF hw
  clear hp hs hst hlv hlb hq bf hbelow hown hr1 hr2 hr3 hr4 hne1 hne2 hlen hcells hr2' hbel2 hD hM hn hk hnt htl hn4
  go_enter Tryz.func154, Tryz.ntmps154
  go_wp2
  go_region
  all_goals go_wp2
  all_goals go_end0
  all_goals exact HF.out

set_option maxRecDepth 100000 in
set_option maxHeartbeats 1600000 in
theorem bstore_any (w : World) (B : Nat) (Q : Cd) (sb mb : Nat) (v : Rp → Value) (s : Sx) (t : Nat) (x y : Int) (hK : Q.K = bufK) (hp : MPre w B Q sb mb v s t) (hw : (thOf s t).wait.length < 3) :
    Calls Tryz.prog 141 #[.pointer (some ⟨Q.bb, 0, none⟩), .int .i64 t, .int .i64 x, .int .i64 y] w (ChgQ B Q sb mb v w (storeW 1 s t ⟨false, x, y⟩) (.tuple #[])) := by
  have HP := Hid.out (p := Hid _) (put_any w B Q sb mb v s t ⟨false, x, y⟩ hK hp hw)
  have lbb : Q.bb < w.heap.size := lt_of_cell (hp.hs.b1 (buf_bf hK))
  clear hp hw
  go_enter Tryz.func141, Tryz.ntmps141
  go_wp2_with fail
  refine Calls.mono HP.out ?_
  rintro e w1 ⟨rfl, h1⟩
  go_wp2_with fail
  go_end0
  exact ⟨rfl, h1⟩

set_option maxRecDepth 100000 in
set_option maxHeartbeats 1600000 in
theorem bwaiting_any (w : World) (B : Nat) (Q : Cd) (sb mb : Nat) (v : Rp → Value) (s : Sx) (t fid : Nat) (caps : Array Value) (I : Nat → World → Prop) (hK : Q.K = bufK) (kF : ∀ (xs : Array Value) (w : World), (callFunc fid xs).run Tryz.prog w = .ok (.enter fid xs) w) (hp : MPre w B Q sb mb v s t) (hI : ∀ j W k, I j W → I j (W.drewN k)) (h0 : I 0 w)
    (hC : ∀ j W, j < (placesW 1 (thOf s t).wait).length → I j W → Calls Tryz.prog fid (#[.int .i64 ((placesW 1 (thOf s t).wait).getD j 0 : Nat)] ++ caps) W fun e W' => e = .returned (.tuple #[]) ∧ I (j + 1) W') :
    Calls Tryz.prog 145 #[.pointer (some ⟨Q.bb, 0, none⟩), .int .i64 t, .func (.func fid) #[] caps] w fun e w' => e = .returned (.tuple #[]) ∧ I (placesW 1 (thOf s t).wait).length w' := by
  have hb := buf_bf hK
  have hs := hp.hs
  have hnt := hp.hn
  have htl := hp.ht
  have hw3 := hp.hw
  have hn4 := hp.h4
  obtain ⟨lb, lc, hlv, hlb, hllb⟩ := hs.bufsB hb (by omega)
  obtain ⟨qa, qc, hq⟩ := hs.bufV hb t
  have b1 := hs.b1 hb
  rw [hlv] at b1
  have bq := hs.bufc hb hlb (t := t) (by omega)
  rw [hq] at bq
  obtain ⟨n, hn⟩ : ∃ m, Q.nt = m := ⟨_, rfl⟩
  rw [hn] at b1 hnt
  have htn : t < n := by omega
  have hn44 : n ≤ 4 := by omega
  have hpl : placesW 1 (thOf s t).wait = if (thOf s t).wait.length = 0 then [] else [0] := by
    unfold placesW
    generalize (thOf s t).wait = l at hw3 ⊢
    match l, hw3 with
    | [], _ => rfl
    | [a], _ => rfl
    | [a, b], _ => rfl
    | [a, b, c], _ => rfl
  rw [hpl] at hC ⊢
  obtain ⟨k, hk⟩ : ∃ m, (thOf s t).wait.length = m := ⟨_, rfl⟩
  rw [hk] at bq hw3 hC ⊢
  by_cases hk0 : k = 0
  · subst hk0
    simp only [if_true, List.length_nil]
    have HI0 : Hid (∀ k, I 0 (w.drewN k)) := fun k => hI 0 w k h0
    have HI1 : Hid (I 0 w) := h0
    clear hp hs hlv hlb hq hn hk hnt htl hn4 hC hI h0 hpl
    go_enter Tryz.func145, Tryz.ntmps145
    go_wp2
    go_end0
    exact ⟨rfl, HI1.out⟩
  · rw [if_neg hk0] at hC ⊢
    have HC : Hid (Calls Tryz.prog fid (#[.int .i64 0] ++ caps) w fun e W' => e = .returned (.tuple #[]) ∧ I 1 W') := hC 0 w (by simp) h0
    have hkp : 0 < k := by omega
    clear hp hs hlv hlb hq hn hk hnt htl hn4 hC hI h0 hpl hk0
    go_enter Tryz.func145, Tryz.ntmps145
    go_wp2_with fail
    refine Calls.mono HC.out ?_
    rintro e w1 ⟨rfl, h1⟩
    go_wp2_with fail
    go_end0
    exact ⟨rfl, h1⟩
end

section
open Go.RowKit

theorem mem_getD {l : List Wt} {k : Nat} {x : Wt} (hk : k < l.length) (h : l.getD k default = x) : x ∈ l := by
  have : l.getD k default = l[k] := by simp [List.getD, hk]
  rw [← h, this]
  exact List.getElem_mem _
set_option maxRecDepth 100000 in
set_option maxHeartbeats 800000 in
theorem sindex_any (w : World) (qa : Option Addr) (qc : Nat) (l : List Wt) (x : Wt) (hq : WIn w qa l) (hl : l.length ≤ 100) :
    Calls Tryz.prog 163 #[.slice qa l.length qc, .agg #[.bool x.lk, .int .i64 x.wh, .int .i64 x.what]] w fun e w' => (∃ r : Int, e = .returned (.int .i64 r) ∧ (0 ≤ r ↔ x ∈ l)) ∧ Below w.heap.size w w' := by
  obtain ⟨n, hn⟩ : ∃ n, l.length = n := ⟨_, rfl⟩
  have HN : Hid (l.length = n) := hn
  rw [hn] at hl ⊢
  obtain ⟨lk, wh, what⟩ := x
  simp only
  have hq' := hq.below ((Below.refl w.heap.size w).alloc (Nat.le_refl _) (.cells #[.bool lk, .int .i64 wh, .int .i64 what] 212))
  have HB0 : Hid (∀ W, Below (w.heap.size + 1) (w.alloc (.cells #[.bool lk, .int .i64 wh, .int .i64 what] 212)) W → Below w.heap.size w W) := fun W h => ((Below.refl w.heap.size w).alloc (Nat.le_refl _) _).trans (h.mono (by omega))
  have HBX : Hid (∀ W, Below (w.heap.size + 1) (w.alloc (.cells #[.bool lk, .int .i64 wh, .int .i64 what] 212)) W → W.cell? ⟨w.heap.size, 0, none⟩ = some (.bool lk) ∧ W.cell? ⟨w.heap.size, 1, none⟩ = some (.int .i64 wh) ∧ W.cell? ⟨w.heap.size, 2, none⟩ = some (.int .i64 what)) := fun W h => ⟨(h.cell (p := ⟨w.heap.size, 0, none⟩) (by show w.heap.size < _; omega)).trans (World.cell?_alloc_new _ _ _ _), (h.cell (p := ⟨w.heap.size, 1, none⟩) (by show w.heap.size < _; omega)).trans (World.cell?_alloc_new _ _ _ _), (h.cell (p := ⟨w.heap.size, 2, none⟩) (by show w.heap.size < _; omega)).trans (World.cell?_alloc_new _ _ _ _)⟩
  have HQ : Hid (∀ W, Below (w.heap.size + 1) (w.alloc (.cells #[.bool lk, .int .i64 wh, .int .i64 what] 212)) W → WIn W qa l) := fun W h => hq'.below (by rw [World.size_alloc]; exact h)
  clear hn hq hq'
  go_enter Tryz.func163, Tryz.ntmps163
  go_wp2
  go_loopw [8] (fun i wr => ∃ k : Nat, k ≤ n ∧ i = .int .i64 k ∧ Hid (∀ p, p < k → l.getD p default ≠ ⟨lk, wh, what⟩) ∧ Below (w.heap.size + 1) (w.alloc (.cells #[.bool lk, .int .i64 wh, .int .i64 what] 212)) wr) (fun i _ => n - (intOf i).toNat)
  case atStart => exact ⟨0, Nat.zero_le _, rfl, fun p hp => absurd hp (Nat.not_lt_zero _), Below.refl _ _⟩
  case round =>
    obtain ⟨k, hk, rfl, HJ, hbr⟩ := hrel
    obtain ⟨d0, d1, d2⟩ := HBX.out _ hbr
    by_cases hlt : k < n
    · obtain ⟨b, o, rfl, c0, c1, c2⟩ := HQ.out _ hbr k (by rw [HN.out]; exact hlt)
      obtain ⟨y, hy⟩ : ∃ y, l.getD k default = y := ⟨_, rfl⟩
      have HY : Hid (l.getD k default = y) := hy
      rw [hy] at c0 c1 c2
      clear hy
      obtain ⟨lk', wh', what'⟩ := y
      simp only at c0 c1 c2
      by_cases he : (⟨lk', wh', what'⟩ : Wt) = ⟨lk, wh, what⟩
      · simp only [Wt.mk.injEq] at he
        obtain ⟨rfl, rfl, rfl⟩ := he
        go_wp2
        go_region
        all_goals go_wp2
        all_goals go_ret
        all_goals refine ⟨⟨_, rfl, ?_⟩, (HB0.out _ hbr).drew⟩
        all_goals exact ⟨fun _ => mem_getD (by rw [HN.out]; exact hlt) HY.out, fun _ => by omega⟩
      · have HE : Hid (∀ p, p < k + 1 → l.getD p default ≠ ⟨lk, wh, what⟩) := fun p hp => by
          rcases (by omega : p < k ∨ p = k) with h | rfl
          · exact HJ.out p h
          · rw [HY.out]; exact he
        by_cases e1 : lk = lk'
        · subst e1
          by_cases e2 : wh = wh'
          · subst e2
            have e3 : ¬ what = what' := fun e => he (by rw [e])
            clear he
            go_wp2
            go_region
            all_goals go_wp2
            all_goals go_roundw
            case rel => exact ⟨k + 1, by omega, by go_num, HE, hbr.drew⟩
            case measure => simp [intOf]; omega
          · clear he
            go_wp2
            go_region
            all_goals go_wp2
            all_goals go_roundw
            case rel => exact ⟨k + 1, by omega, by go_num, HE, hbr.drew⟩
            case measure => simp [intOf]; omega
        · clear he
          go_wp2
          go_region
          all_goals go_wp2
          all_goals go_roundw
          case rel => exact ⟨k + 1, by omega, by go_num, HE, hbr.drew⟩
          case measure => simp [intOf]; omega
    · go_wp2
      go_ret
      refine ⟨⟨_, rfl, ?_⟩, HB0.out _ hbr⟩
      refine ⟨fun h => absurd h (by decide), fun h => ?_⟩
      obtain ⟨p, hp, e⟩ := List.getElem_of_mem h
      have hpk : p < k := by have := HN.out; omega
      exact absurd (by simp [List.getD, List.getElem?_eq_getElem hp, e]) (HJ.out p hpk)

set_option maxRecDepth 100000 in
set_option maxHeartbeats 800000 in
theorem scontains_any (w : World) (qa : Option Addr) (qc : Nat) (l : List Wt) (x : Wt) (hq : WIn w qa l) (hl : l.length ≤ 100) :
    Calls Tryz.prog 158 #[.slice qa l.length qc, .agg #[.bool x.lk, .int .i64 x.wh, .int .i64 x.what]] w fun e w' => e = .returned (.bool (decide (x ∈ l))) ∧ Below w.heap.size w w' := by
  have HI := Hid.out (p := Hid _) (fun W (e : Below w.heap.size w W) => sindex_any W qa qc l x (hq.below e) hl)
  obtain ⟨b, hb⟩ : ∃ b, decide (x ∈ l) = b := ⟨_, rfl⟩
  have HBB : Hid (decide (x ∈ l) = b) := hb
  rw [hb]
  obtain ⟨n, hn⟩ : ∃ n, l.length = n := ⟨_, rfl⟩
  rw [hn] at HI ⊢
  have HB0 : Hid (∀ o, Below w.heap.size w (w.alloc o)) := fun o => (Below.refl _ _).alloc (Nat.le_refl _) _
  clear hq hl hb hn
  go_enter Tryz.func158, Tryz.ntmps158
  go_wp2_with fail
  refine Calls.mono (HI.out _ (by first | exact Below.refl _ _ | exact HB0.out _)) ?_
  rintro e w1 ⟨⟨r, rfl, hr⟩, hb1⟩
  have HR := Hid.out (p := Hid _) hr
  clear hr
  go_wp2
  go_ret
  refine ⟨ret_bool ?_, ?_⟩
  · rw [← HBB.out]
    exact decide_eq_decide.2 HR.out
  · first | exact hb1 | exact (HB0.out _).trans (hb1.mono (by simp))
end

end Go.Proofs.YtefnmbnakphhfadGreatDoor
