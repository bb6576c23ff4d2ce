/-
  A copy of a state of the program.
-/
import Derived.Test.YtefnmbnakphhfadGreatDoorWClone2
namespace Go.Proofs.YtefnmbnakphhfadGreatDoor
open Go.RowKit

/-- What was copied of the first j threads. -/
def ctN (s : Sx) (j : Nat) : Rp → Nat
  | .thr => s.ths.length
  | .regs t => if t < j then (thOf s t).regs.length else 0
  | _ => 0
def ctC (Q : Cd) (v : Rp → Value) (s : Sx) (u : Rp → Value) (j t i : Nat) : Value := if i = 0 then .slice (Q.A t) (Q.L t) (Q.C t) else if i = 1 then .int .i64 (thOf s t).pc else if t < j then u (.regs t) else v (.regs t)
def ctX (Q : Cd) (v : Rp → Value) (s : Sx) (u : Rp → Value) (j : Nat) : Rp → List Value
  | .thr => rows3 s.ths.length (ctC Q v s u j)
  | .regs t => if t < j then intsV (thOf s t).regs else []
  | _ => []
structure ClT (w wr : World) (Q : Cd) (v : Rp → Value) (s : Sx) (u : Rp → Value) (j : Nat) : Prop where
  fam : Fam wr w.heap.size (pTy Q.K) pSz u (ctN s j) (ctX Q v s u j)
  nils : ∀ r, r ≠ .thr → (∀ t, t < j → r ≠ .regs t) → u r = nilV
  below : Below w.heap.size w wr
section
variable {w wr w1 : World} {B : Nat} {Q : Cd} {sb mb : Nat} {v u : Rp → Value} {s : Sx} {j : Nat}
theorem ClT.start {x : Value} (hx : wr.ownsRow w.heap.size (pTy Q.K .thr) 3 x s.ths.length (rows3 s.ths.length (pthC Q v s))) (hb : Below w.heap.size w wr) : ClT w wr Q v s (fun r => if r = .thr then x else nilV) 0 := by
  refine ⟨⟨fun r => ?_, fun r q g hr hq => ?_⟩, fun r hr _ => if_neg hr, hb⟩
  · cases r with
    | thr =>
      have e : ctX Q v s (fun r => if r = .thr then x else nilV) 0 .thr = rows3 s.ths.length (pthC Q v s) := by
        refine rows3_congr fun t i _ => ?_
        unfold ctC pthC
        simp
      rw [e]
      exact hx
    | regs t =>
      have e1 : ctN s 0 (.regs t) = 0 := by simp [ctN]
      have e2 : ctX Q v s (fun r => if r = .thr then x else nilV) 0 (.regs t) = [] := by simp [ctX]
      rw [e1, e2]
      exact World.ownsRow_nil _ _ _ _
    | _ => exact World.ownsRow_nil _ _ _ _
  · have key : ∀ y : Rp, ((if y = .thr then x else nilV : Value)).ownBlock = some g → y = .thr := fun y hy => by
      by_cases e : y = .thr
      · exact e
      · rw [if_neg e] at hy; simp [Value.ownBlock] at hy
    rw [key r hr, key q hq]
theorem ClT.next (h : ClT w wr Q v s u j) {g : Nat} (hg : (u .thr).ownBlock = some g) {x : Value} (hrow : w1.ownsRow wr.heap.size 3 1 x (thOf s j).regs.length (intsV (thOf s j).regs)) (hb : Below wr.heap.size wr w1) : ClT w (w1.setCell ⟨g, j * 3 + 2, none⟩ x) Q v s (upd u (.regs j) x) (j + 1) := by
  have h0 : u (.regs j) = nilV := h.nils _ (by simp) (fun t ht e => by injection e with e; omega)
  have hgl : w.heap.size ≤ g := h.fam.low _ g hg
  refine ⟨h.fam.copied (r := .regs j) (p := .thr) h.below.size (by simp) (by rw [h0]; rfl) hrow hb hg ?_ ?_ (fun q hq => ?_) ?_ (fun q h1 h2 => ?_), fun r h1 h2 => ?_, (h.below.trans (hb.mono h.below.size)).setCell hgl _⟩
  · show (if j < j + 1 then _ else 0) = _
    rw [if_pos (by omega)]
  · show (if j < j + 1 then _ else []) = _
    rw [if_pos (by omega)]
  · cases q with
    | regs t =>
      have hne : t ≠ j := fun e => hq (by rw [e])
      show (if t < j + 1 then _ else 0) = if t < j then _ else 0
      by_cases h3 : t < j
      · rw [if_pos h3, if_pos (by omega)]
      · rw [if_neg h3, if_neg (by omega)]
    | _ => rfl
  · refine rows3_set (by omega) ?_ ?_
    · unfold ctC
      rw [if_neg (by omega), if_neg (by omega), if_pos (by omega), upd_self]
    · intro a b hb3 hab
      unfold ctC
      by_cases h1 : b = 0
      · rw [if_pos h1, if_pos h1]
      · rw [if_neg h1, if_neg h1]
        by_cases h2 : b = 1
        · rw [if_pos h2, if_pos h2]
        · rw [if_neg h2, if_neg h2]
          have hne : a ≠ j := fun e => hab ⟨e, by omega⟩
          rw [upd_ne _ _ (by intro e; injection e with e; exact hne e)]
          by_cases h3 : a < j
          · rw [if_pos h3, if_pos (by omega)]
          · rw [if_neg h3, if_neg (by omega)]
  · cases q with
    | thr => exact absurd rfl h2
    | regs t =>
      have hne : t ≠ j := fun e => h1 (by rw [e])
      show (if t < j + 1 then _ else []) = if t < j then _ else []
      by_cases h3 : t < j
      · rw [if_pos h3, if_pos (by omega)]
      · rw [if_neg h3, if_neg (by omega)]
    | _ => rfl
  · rw [upd_ne _ _ (h2 j (by omega))]
    exact h.nils r h1 (fun t ht => h2 t (by omega))
end
theorem thOf_outR {s : Sx} {t : Nat} (h : s.ths.length ≤ t) : (thOf s t).regs = [] := by
  unfold thOf
  rw [List.getD_eq_getElem?_getD, List.getElem?_eq_none h]
  rfl
/-- The rows of a copied state. -/
def c1V (sb : Nat) (u vm : Rp → Value) (pv : Value) : Rp → Value
  | .st => boxV sb
  | .thr => u .thr
  | .regs t => u (.regs t)
  | .prints => pv
  | r => vm r
theorem c1V_mem {sb : Nat} {u vm : Rp → Value} {pv : Value} {r : Rp} (h : r.isMem = true) : c1V sb u vm pv r = vm r := by
  cases r <;> first | rfl | cases h
theorem ClT.c {w w2 w3 w4 : World} {Q : Cd} {v u vm : Rp → Value} {s : Sx} {mb bb : Nat} {pv : Value} (h : ClT w w2 Q v s u s.ths.length) (hM : MemC w2 w3 (Q.at bb) mb vm s) (hp : w4.ownsRow w3.heap.size 3 1 pv s.prints.length (intsV s.prints)) (hb : Below w3.heap.size w3 w4) :
    QSt (w4.alloc (.cells #[.iface Q.K.tid (.pointer (some ⟨(Q.at bb).top mb, 0, none⟩)), u .thr, pv] 92)) w.heap.size (Q.at bb) w4.heap.size mb (c1V w4.heap.size u vm pv) s := by
  have hz := h.below.size
  have h3 := hM.below.size
  have h4 := hb.size
  have hu : ∀ r k, (u r).ownBlock = some k → k < w2.heap.size := fun r k e => h.fam.lt e
  have hm : ∀ r, r.isMem = true → ∀ k, (vm r).ownBlock = some k → w2.heap.size ≤ k ∧ k < w3.heap.size := fun r hr k e => (hM.own r hr).lt k e
  have hpl : ∀ k, pv.ownBlock = some k → w3.heap.size ≤ k ∧ k < w4.heap.size := fun k e => hp.lt k e
  have keep : ∀ r, (w4.alloc (.cells #[.iface Q.K.tid (.pointer (some ⟨(Q.at bb).top mb, 0, none⟩)), u .thr, pv] 92)).ownsRow w.heap.size (pTy Q.K r) (pSz r) (u r) (ctN s s.ths.length r) (ctX Q v s u s.ths.length r) := fun r =>
    (fam_keeps (h.fam.own r) (fun g hg => (hb.block g (Nat.lt_of_lt_of_le (h.fam.lt hg) h3)).trans (hM.below.block g (h.fam.lt hg)))).alloc _
  refine ⟨⟨fun r => ?_, fun r q k h1 h2 => ?_⟩, rfl, ?_, fun hbf => ?_⟩
  · by_cases hr : r.isMem = true
    · have e1 : pX (Q.at bb) mb (c1V w4.heap.size u vm pv) s r = pX (Q.at bb) mb vm s r := by
        cases r <;> first | rfl | cases hr
      rw [e1, c1V_mem hr]
      exact (fam_keeps (own_low (hM.own r hr) hz) (fun g hg => hb.block g (hm r hr g hg).2)).alloc _
    · cases r with
      | st => exact fam_box (xs := [.iface Q.K.tid (.pointer (some ⟨(Q.at bb).top mb, 0, none⟩)), u .thr, pv]) (by omega) (heap_alloc_new _ _)
      | thr =>
        have e : pX (Q.at bb) mb (c1V w4.heap.size u vm pv) s .thr = ctX Q v s u s.ths.length .thr := by
          refine rows3_congr fun t i ht => ?_
          unfold ctC pthC
          by_cases h1 : i = 0
          · rw [if_pos h1, if_pos h1]; rfl
          · rw [if_neg h1, if_neg h1]
            by_cases h2 : i = 1
            · rw [if_pos h2, if_pos h2]
            · rw [if_neg h2, if_neg h2, if_pos ht]; rfl
        rw [e]
        exact keep .thr
      | regs t =>
        have e1 : pN (Q.at bb) s (.regs t) = ctN s s.ths.length (.regs t) := by
          show (thOf s t).regs.length = if t < s.ths.length then (thOf s t).regs.length else 0
          by_cases ht : t < s.ths.length
          · rw [if_pos ht]
          · rw [if_neg ht, thOf_outR (by omega)]; rfl
        have e2 : pX (Q.at bb) mb (c1V w4.heap.size u vm pv) s (.regs t) = ctX Q v s u s.ths.length (.regs t) := by
          show intsV (thOf s t).regs = if t < s.ths.length then intsV (thOf s t).regs else []
          by_cases ht : t < s.ths.length
          · rw [if_pos ht]
          · rw [if_neg ht, thOf_outR (by omega)]; rfl
        rw [e1, e2]
        exact keep (.regs t)
      | prints => exact (own_low hp (by omega)).alloc _
      | _ => exact absurd rfl hr
  · have key : ∀ r, (c1V w4.heap.size u vm pv r).ownBlock = some k → (r = .st ∧ k = w4.heap.size) ∨ (r = .prints ∧ pv.ownBlock = some k) ∨ (r.isMem = true ∧ (vm r).ownBlock = some k) ∨ ((u r).ownBlock = some k) := fun r e => by
      by_cases hr : r.isMem = true
      · rw [c1V_mem hr] at e
        exact .inr (.inr (.inl ⟨hr, e⟩))
      · cases r with
        | st => exact .inl ⟨rfl, by simpa [c1V, Value.ownBlock] using e.symm⟩
        | prints => exact .inr (.inl ⟨rfl, e⟩)
        | thr => exact .inr (.inr (.inr e))
        | regs t => exact .inr (.inr (.inr e))
        | _ => exact absurd rfl hr
    rcases key r h1 with ⟨rfl, e1⟩ | ⟨rfl, e1⟩ | ⟨m1, e1⟩ | e1 <;> rcases key q h2 with ⟨rfl, e2⟩ | ⟨rfl, e2⟩ | ⟨m2, e2⟩ | e2
    all_goals first
      | rfl
      | (exfalso; have := hpl _ e1; omega)
      | (exfalso; have := hpl _ e2; omega)
      | exact hM.apart r q k m1 m2 e1 e2
      | exact h.fam.apart r q k e1 e2
      | (exfalso; have := hm _ m1 _ e1; omega)
      | (exfalso; have := hm _ m2 _ e2; omega)
      | (exfalso; have := hu _ _ e1; omega)
      | (exfalso; have := hu _ _ e2; omega)
      | (exfalso; have := hpl _ e1; have := hm _ m2 _ e2; omega)
      | (exfalso; have := hpl _ e2; have := hm _ m1 _ e1; omega)
      | (exfalso; have := hpl _ e1; have := hu _ _ e2; omega)
      | (exfalso; have := hpl _ e2; have := hu _ _ e1; omega)
      | (exfalso; have := hm _ m1 _ e1; have := hu _ _ e2; omega)
      | (exfalso; have := hm _ m2 _ e2; have := hu _ _ e1; omega)
  · show vm .mem = boxV mb
    exact hM.mem
  · show vm .box = boxV (Q.at bb).bb
    exact hM.box hbf

set_option maxRecDepth 100000 in
set_option maxHeartbeats 3200000 in
/-- A copy of a state. -/
theorem sclone_any (w : World) (B : Nat) (Q : Cd) (sb mb : Nat) (v : Rp → Value) (s : Sx) (cf : Nat) (hC : MClone Q.K cf) (hs : QSt w B Q sb mb v s) (ho : KOk Q s) :
    Calls Tryz.prog 80 #[.pointer (some ⟨sb, 0, none⟩)] w fun e w' => ∃ sb' mb' bb' v', e = .returned (.pointer (some ⟨sb', 0, none⟩)) ∧ QSt w' w.heap.size (Q.at bb') sb' mb' v' s ∧ Below w.heap.size w w' := by
  obtain ⟨tb, tc, hth, htb, _⟩ := hs.blk .thr (by show 0 < s.ths.length; exact ho.n0)
  change v .thr = .slice (some ⟨tb, 0, none⟩) s.ths.length tc at hth
  have c1 := hs.c1
  rw [hth] at c1
  have c0 := hs.c0
  obtain ⟨pa, pc, hpv⟩ := hs.form .prints
  change v .prints = .slice pa s.prints.length pc at hpv
  have c2 := hs.c2
  rw [hpv] at c2
  have hn4 := ho.n4
  have hn0 := ho.n0
  have mC := hC.mClone
  have kC := hC.cClone
  have HC1 : Hid (Calls Tryz.prog 97 #[.slice (some ⟨tb, 0, none⟩) s.ths.length tc] w fun e w' => ∃ g c', e = .returned (.slice (some ⟨g, 0, none⟩) s.ths.length c') ∧ Hid (ClT w w' Q v s (fun r => if r = .thr then .slice (some ⟨g, 0, none⟩) s.ths.length c' else nilV) 0)) := by
    have h1 := hs.fam.own .thr
    rw [hth] at h1
    refine (cloneT_any w B _ _ _ h1 (fun y hy => ?_) (by show s.ths.length ≤ _; omega)).mono fun e w' ⟨x, he, hx, hbx⟩ => ?_
    · obtain ⟨i, _, rfl⟩ := List.mem_map.mp hy
      unfold pthC
      split
      · rfl
      · split
        · rfl
        · obtain ⟨a, c, e⟩ := hs.form (.regs (i / 3))
          rw [e]; rfl
    · obtain ⟨g, cap, rfl, _, _, _⟩ := fam_block hx hn0
      exact ⟨g, cap, he, ClT.start hx hbx⟩
  have HC2 : Hid (∀ W t, t < s.ths.length → Below w.heap.size w W → ∃ qa qk qc, v (.regs t) = .slice qa qk qc ∧ Hid (Calls Tryz.prog 46 #[.slice qa qk qc] W fun e w' => ∃ a' k' c', e = .returned (.slice a' k' c') ∧ w'.ownsRow W.heap.size 3 1 (.slice a' k' c') (thOf s t).regs.length (intsV (thOf s t).regs) ∧ Below W.heap.size W w')) := fun W t ht hbw => by
    obtain ⟨a, c, e⟩ := hs.form (.regs t)
    have h1 := (hs.below hbw).fam.own (.regs t)
    rw [e] at h1
    exact ⟨a, _, c, e, (cloneI_row W B a c (thOf s t).regs h1 (by have := ho.rg t ht; omega)).mono fun e w' ⟨a', c', he, hx, hbx⟩ => ⟨a', _, c', he, hx, hbx⟩⟩
  have HC3 : Hid (∀ W, Below w.heap.size w W → Calls Tryz.prog cf #[.pointer (some ⟨Q.top mb, 0, none⟩)] W fun e w' => ∃ mb' bb' vm, e = .returned (.iface Q.K.tid (.pointer (some ⟨(Q.at bb').top mb', 0, none⟩))) ∧ MemC W w' (Q.at bb') mb' vm s) := fun W hbw => hC.clone W B Q sb mb v s rfl (hs.below hbw) ho
  have HC4 : Hid (∀ W, Below w.heap.size w W → Calls Tryz.prog 46 #[.slice pa s.prints.length pc] W fun e w' => ∃ a' c', e = .returned (.slice a' s.prints.length c') ∧ w'.ownsRow W.heap.size 3 1 (.slice a' s.prints.length c') s.prints.length (intsV s.prints) ∧ Below W.heap.size W w') := fun W hbw => by
    have h1 := (hs.below hbw).fam.own .prints
    rw [hpv] at h1
    exact cloneI_row W B pa pc s.prints h1 (by have := ho.pr; omega)
  obtain ⟨n, hn⟩ : ∃ n, s.ths.length = n := ⟨_, rfl⟩
  have HN : Hid (s.ths.length = n) := hn
  rw [hn] at c1 HC1 HC2 hn0 hn4
  have HFIN : Hid (∀ W w2 w3 w4 u mb' bb' vm pv, ClT w w2 Q v s u n → W.heap = w2.heap → W.os = w2.os → W.tape = w2.tape → W.output = w2.output → MemC W w3 (Q.at bb') mb' vm s → w4.ownsRow w3.heap.size 3 1 pv s.prints.length (intsV s.prints) → Below w3.heap.size w3 w4 → QSt (w4.alloc (.cells #[.iface Q.K.tid (.pointer (some ⟨(Q.at bb').top mb', 0, none⟩)), u .thr, pv] 92)) w.heap.size (Q.at bb') w4.heap.size mb' (c1V w4.heap.size u vm pv) s) := fun W w2 w3 w4 u mb' bb' vm pv h1 he he1 he2 he3 h2 h3 h4 => by
    have h1' : ClT w w2 Q v s u s.ths.length := by rw [HN.out]; exact h1
    have hM : MemC w2 w3 (Q.at bb') mb' vm s := ⟨fun r hr => by have := h2.own r hr; rw [he] at this; exact this, h2.apart, h2.mem, h2.box, ⟨h2.below.os.trans he1, h2.below.tape.trans he2, h2.below.output.trans he3, by rw [← he]; exact h2.below.size, fun k hk => by rw [← he]; exact h2.below.block k (by rw [he]; exact hk)⟩⟩
    exact h1'.c hM h3 h4
  have HCEL : Hid (∀ W u j g c', ClT w W Q v s u j → u .thr = .slice (some ⟨g, 0, none⟩) n c' → j < n → W.cell? ⟨g, j * 3 + 2, none⟩ = some (v (.regs j)) ∧ W.frozen? ⟨g, j * 3 + 2, none⟩ = false) := fun W u j g c' h e hj => by
    have hg : (u .thr).ownBlock = some g := by rw [e]; rfl
    refine ⟨h.fam.cell hg ?_, h.fam.frozen hg _⟩
    refine (rows3_get (by rw [HN.out]; exact hj) (by omega)).trans ?_
    unfold ctC
    rw [if_neg (by omega), if_neg (by omega), if_neg (by omega)]
  obtain ⟨pl, hpl⟩ : ∃ k, s.prints.length = k := ⟨_, rfl⟩
  rw [hpl] at c2 HC4 HFIN
  clear hs hth htb hC ho hn hpv hpl
  go_enter Tryz.func80, Tryz.ntmps80
  go_wp2_with fail
  refine Calls.mono HC1.out ?_
  rintro e w1 ⟨g, cc, rfl, HB⟩
  clear HC1 c1
  go_wp2_with fail
  go_loopw [12] (fun i wr => ∃ (j : Nat) (u : Rp → Value), j ≤ n ∧ i = .int .i64 j ∧ Hid (ClT w wr Q v s u j ∧ u .thr = .slice (some ⟨g, 0, none⟩) n cc)) (fun i _ => n - (intOf i).toNat)
  case atStart => exact ⟨0, _, Nat.zero_le _, rfl, HB.out, rfl⟩
  case round =>
    obtain ⟨j, u, hj, rfl, HJ⟩ := hrel
    clear HB
    by_cases hlt : j < n
    · obtain ⟨ce, cf'⟩ := HCEL.out _ _ _ _ _ HJ.out.1 HJ.out.2 hlt
      obtain ⟨qa, qk, qc, eq, HC5⟩ := HC2.out wr j hlt HJ.out.1.below
      rw [eq] at ce
      clear eq
      go_wp2_with fail
      refine Calls.mono HC5.out ?_
      rintro e w2 ⟨a2, k2, c2', rfl, hr2, hb2⟩
      have ce2 := (hb2.cell (lt_of_cell ce)).trans ce
      have cf2 : w2.frozen? ⟨g, j * 3 + 2, none⟩ = false := (hb2.frozen (p := ⟨g, j * 3 + 2, none⟩) (lt_of_cell ce)).trans cf'
      have HN2 : Hid (ClT w (w2.setCell ⟨g, j * 3 + 2, none⟩ (.slice a2 k2 c2')) Q v s (upd u (.regs j) (.slice a2 k2 c2')) (j + 1) ∧ upd u (.regs j) (.slice a2 k2 c2') .thr = .slice (some ⟨g, 0, none⟩) n cc) :=
        ⟨HJ.out.1.next (by rw [HJ.out.2]; rfl) hr2 hb2, by rw [upd_ne _ _ (by simp)]; exact HJ.out.2⟩
      clear HC5 hr2 hb2 HJ ce cf'
      go_wp2_with fail
      go_roundw
      case rel => exact ⟨j + 1, _, by omega, by go_num, HN2⟩
      case measure => simp [intOf]; omega
    · obtain rfl : j = n := by omega
      have hbr := HJ.out.1.below
      have d0 := (hbr.cell (lt_of_cell c0)).trans c0
      have d2 := (hbr.cell (lt_of_cell c2)).trans c2
      go_wp2_with fail
      go_region_held3 (fun w' => w'.cell? ⟨sb, 0, none⟩ = some (.iface Q.K.tid (.pointer (some ⟨Q.top mb, 0, none⟩))) ∧ w'.cell? ⟨sb, 2, none⟩ = some (.slice pa pl pc)) (refine ⟨?_, ?_⟩ <;> (repeat (first | assumption | refine cell_drw ?_ | refine cell_up ?_ _))) (first | ((with_reducible show Calls _ cf _ _ _); refine Calls.mono (HC3.out _ (by repeat (first | assumption | refine Below.drew ?_))) ?_; rintro e w3 ⟨mb', bb', vm, rfl, hM⟩; have z0 : w3.cell? ⟨sb, 0, none⟩ = some (.iface Q.K.tid (.pointer (some ⟨Q.top mb, 0, none⟩))) := (hM.below.cell (p := ⟨sb, 0, none⟩) (lt_of_cell d0)).trans d0; have z2 : w3.cell? ⟨sb, 2, none⟩ = some (.slice pa pl pc) := (hM.below.cell (p := ⟨sb, 2, none⟩) (lt_of_cell d2)).trans d2; have hB3 : Below w.heap.size w w3 := hbr.trans ⟨hM.below.os, hM.below.tape, hM.below.output, hM.below.size, fun q hq => hM.below.block q (Nat.lt_of_lt_of_le hq hbr.size)⟩; have HM := Hid.out (p := Hid _) hM; clear hM) | (go_at_call 46; refine Calls.mono (HC4.out _ (by repeat (first | assumption | refine Below.drew ?_))) ?_; rintro e w4 ⟨a4, c4, rfl, ho4, hb4⟩; have y0 : w4.cell? ⟨sb, 0, none⟩ = some (.iface Q.K.tid (.pointer (some ⟨Q.top mb, 0, none⟩))) := (hb4.cell (p := ⟨sb, 0, none⟩) (lt_of_cell z0)).trans z0; have y2 : w4.cell? ⟨sb, 2, none⟩ = some (.slice pa pl pc) := (hb4.cell (p := ⟨sb, 2, none⟩) (lt_of_cell z2)).trans z2; have hB4 : Below w.heap.size w w4 := hB3.trans (hb4.mono hB3.size); have HO4 := Hid.out (p := Hid _) (And.intro ho4 hb4); clear ho4 hb4))
      all_goals go_wp2
      all_goals go_ret
      all_goals refine ⟨w4.heap.size, mb', bb', c1V w4.heap.size u vm (.slice a4 pl c4), rfl, ?_, hB4.alloc hB4.size _⟩
      all_goals have hfin := HFIN.out wr.drew wr w3 w4 u mb' bb' vm _ HJ.out.1 rfl rfl rfl rfl HM.out HO4.out.1 HO4.out.2
      all_goals rw [HJ.out.2] at hfin
      all_goals exact hfin

end Go.Proofs.YtefnmbnakphhfadGreatDoor
