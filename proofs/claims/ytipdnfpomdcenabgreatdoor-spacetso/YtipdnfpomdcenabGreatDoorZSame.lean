/-
  What the program tells of a state, in whichever memory.
  Whether two lists of outcomes are the same, by the document.
  An outcome is put into its place, by the document.
-/
import Derived.Test.YtipdnfpomdcenabGreatDoorWTell2
import Derived.Test.YtipdnfpomdcenabGreatDoorRead
import Derived.Test.YtipdnfpomdcenabGreatDoorRDoP
import Derived.Test.YtipdnfpomdcenabGreatDoorSameI
import Derived.Test.YtipdnfpomdcenabGreatDoorZNum
namespace Go.Proofs.YtipdnfpomdcenabGreatDoor
section
open Go.RowKit

/-- What must be known of a state that is told. -/
structure TOk (Q : Cd) (s : Sx) : Prop where
  nt : Q.nt = s.ths.length
  n0 : 0 < s.ths.length
  n4 : s.ths.length ≤ 4
  pc : ∀ t, t < s.ths.length → (thOf s t).pc ≤ 400
  rg : ∀ t, t < s.ths.length → (thOf s t).regs.length ≤ 200
  wl : ∀ t, t < s.ths.length → (thOf s t).wait.length ≤ 3
  wk : ∀ t, t < s.ths.length → ∀ x, x ∈ (thOf s t).wait → 0 ≤ x.wh ∧ x.wh ≤ 64
  words : s.words.length ≤ 64
  own : s.own.length ≤ 4
  pr : s.prints.length ≤ 10000
  v : VOk s
/-- What a kind of memory tells. -/
structure MTell (K : Mk) (tf : Nat) : Prop where
  mTell : ∀ (a : Addr) (w : World), (method 368 K.tid (.pointer (some a)) "Tell").run Tryz.prog w = .ok (tf, .pointer (some a)) w
  cTell : ∀ (xs : Array Value) (w : World), (callFunc tf xs).run Tryz.prog w = .ok (.enter tf xs) w
  tell : ∀ (w : World) (fid : Nat) (caps : Array Value) (B : Nat) (Q : Cd) (sb mb : Nat) (v : Rp → Value) (s : Sx) (I : List Int → World → Prop) (xs : List Int), Q.K = K → Ear fid caps B Q sb mb v s I → TOk Q s → xs.length ≤ 10000 → I xs w →
    Calls Tryz.prog tf #[.pointer (some ⟨Q.top mb, 0, none⟩), .func (.func fid) #[] caps] w fun e w' => e = .returned (.tuple #[]) ∧ I (xs ++ telM K.mode s) w'
theorem plain_tell : MTell plainK 177 where
  mTell a w := by kernel_rfl
  cTell xs w := by kernel_rfl
  tell w fid caps B Q sb mb v s I xs hK hE ho hx h0 := by
    rw [plain_top hK]
    have h1 := ho.words
    have h2 := ho.own
    refine (ptell_any w fid caps B Q sb mb v s I hE xs ho.v.words ho.v.own (by omega) h0).mono fun e w' h => ⟨h.1, ?_⟩
    have e : telM plainK.mode s = s.words ++ s.own := by
      unfold telM
      rw [if_neg (by decide), List.append_nil]
    rw [e, ← List.append_assoc]
    exact h.2
theorem buf_tell : MTell bufK 188 where
  mTell a w := by kernel_rfl
  cTell xs w := by kernel_rfl
  tell w fid caps B Q sb mb v s I xs hK hE ho hx h0 := by
    rw [buf_top hK]
    have h1 := ho.words
    have h2 := ho.own
    refine (btell_any w fid caps B Q sb mb v s I hE hK ho.nt ho.n0 ho.n4 ho.wl ho.wk (fun t ht x hx => ho.v.wait _ (thOf_mem ht) x hx) xs ho.v.words ho.v.own (by omega) h0).mono fun e w' h => ⟨h.1, ?_⟩
    have e : telM bufK.mode s = s.words ++ s.own ++ s.ths.flatMap telB := by
      unfold telM
      rw [if_pos (by decide)]
    rw [e, ← List.append_assoc, ← List.append_assoc]
    exact h.2
/-- What is told of the first j threads. -/
def telTs (s : Sx) (j : Nat) : List Int := (List.range j).flatMap fun t => telT (thOf s t)
theorem telTs_all (s : Sx) : telTs s s.ths.length = s.ths.flatMap telT := by
  unfold telTs
  conv => rhs; rw [show s.ths = (List.range s.ths.length).map (thOf s) by
    refine List.ext_getElem? fun i => ?_
    rw [List.getElem?_map]
    by_cases h : i < s.ths.length
    · rw [List.getElem?_range h, List.getElem?_eq_getElem h]
      show _ = some (thOf s i)
      unfold thOf
      rw [List.getD_eq_getElem?_getD, List.getElem?_eq_getElem h]; rfl
    · rw [List.getElem?_eq_none (by omega), List.getElem?_eq_none (by simpa using h)]; rfl]
  rw [List.flatMap_map]
theorem telTs_succ (s : Sx) (j : Nat) : telTs s (j + 1) = telTs s j ++ [((thOf s j).pc : Int)] ++ (thOf s j).regs := by
  unfold telTs
  rw [List.range_succ, List.flatMap_append]
  simp [telT]

set_option maxRecDepth 100000 in
set_option maxHeartbeats 3200000 in
/-- What is told of a state. -/
theorem stell_any (w : World) (fid : Nat) (caps : Array Value) (B : Nat) (Q : Cd) (sb mb : Nat) (v : Rp → Value) (s : Sx) (I : List Int → World → Prop) (hE : Ear fid caps B Q sb mb v s I) (tf : Nat) (hT : MTell Q.K tf) (ho : TOk Q s) (h0 : I [] w) :
    Calls Tryz.prog 101 #[.pointer (some ⟨sb, 0, none⟩), .func (.func fid) #[] caps] w fun e w' => e = .returned (.tuple #[]) ∧ I (telX Q.K.mode s) w' := by
  have hs := hE.st _ _ h0
  obtain ⟨tb, tc, hth, htb, _⟩ := hs.blk .thr (by show 0 < s.ths.length; exact ho.n0)
  change v .thr = .slice (some ⟨tb, 0, none⟩) s.ths.length tc at hth
  have kF := hE.fn
  have mT := hT.mTell
  have kT := hT.cTell
  obtain ⟨n, hn⟩ : ∃ n, s.ths.length = n := ⟨_, rfl⟩
  have hn4 : n ≤ 4 := by rw [← hn]; exact ho.n4
  have hlen : ∀ j, j ≤ n → (telTs s j).length ≤ 201 * j := by
    intro j
    induction j with
    | zero => intro _; simp [telTs]
    | succ j ih =>
      intro hj
      rw [telTs_succ]
      have h1 := ih (by omega)
      have h2 := ho.rg j (by omega)
      simp only [List.length_append, List.length_singleton]
      omega
  have HB : Hid (∀ ys W, I ys W → W.cell? ⟨sb, 1, none⟩ = some (.slice (some ⟨tb, 0, none⟩) n tc) ∧ W.cell? ⟨sb, 0, none⟩ = some (.iface Q.K.tid (.pointer (some ⟨Q.top mb, 0, none⟩)))) := fun ys W h => by
    have hq := hE.st _ _ h
    have c1 := hq.c1
    rw [hth, hn] at c1
    exact ⟨c1, hq.c0⟩
  have HP : Hid (∀ ys W j, j < n → I ys W → W.cell? ⟨tb, j * 3 + 1, none⟩ = some (.int .i64 (thOf s j).pc)) := fun ys W j hj h => (hE.st _ _ h).pc htb (by omega)
  have HR : Hid (∀ ys W j, j < n → ys.length ≤ 10000 → I ys W → ∃ a c, W.cell? ⟨tb, j * 3 + 2, none⟩ = some (.slice a (thOf s j).regs.length c) ∧ Hid (Calls Tryz.prog 121 #[.slice a (thOf s j).regs.length c, .func (.func fid) #[] caps] W fun e w' => e = .returned (.tuple #[]) ∧ I (ys ++ (thOf s j).regs) w')) := fun ys W j hj hy h => by
    have hjs : j < s.ths.length := by omega
    obtain ⟨a, c, e, hc⟩ := hE.regs h j (fun x hx => ho.v.regs _ (thOf_mem hjs) x hx) (by have := ho.rg j hjs; omega)
    have := (hE.st _ _ h).regs htb hjs
    rw [e] at this
    exact ⟨a, c, this, hc⟩
  have HT : Hid (∀ ys W m, I64n m → ys.length ≤ 20000 → I ys W → Calls Tryz.prog fid (#[.int .i64 m] ++ caps) W fun e W' => e = .returned (.tuple #[]) ∧ I (ys ++ [m]) W' ∧ Txt W W') := hE.tell
  have HM : Hid (∀ ys W, ys.length ≤ 10000 → I ys W → Calls Tryz.prog tf #[.pointer (some ⟨Q.top mb, 0, none⟩), .func (.func fid) #[] caps] W fun e w' => e = .returned (.tuple #[]) ∧ I (ys ++ telM Q.K.mode s) w') := fun ys W hy h => hT.tell W fid caps B Q sb mb v s I ys rfl hE ho hy h
  have HPR : Hid (∀ ys W, ys.length ≤ 10000 → I ys W → ∃ a c, W.cell? ⟨sb, 2, none⟩ = some (.slice a s.prints.length c) ∧ Hid (Calls Tryz.prog 121 #[.slice a s.prints.length c, .func (.func fid) #[] caps] W fun e w' => e = .returned (.tuple #[]) ∧ I (ys ++ s.prints) w')) := fun ys W hy h => by
    obtain ⟨a, c, e, hc⟩ := hE.prints h ho.v.prints (by have := ho.pr; omega)
    have := (hE.st _ _ h).c2
    rw [e] at this
    exact ⟨a, c, this, hc⟩
  have HPC : Hid (∀ j, j < n → (thOf s j).pc ≤ 400) := fun j hj => ho.pc j (by omega)
  have HL := Hid.out (p := Hid _) hlen
  have HML : Hid ((telM Q.K.mode s).length ≤ 200) := by
    show _ ≤ _
    unfold telM
    have h1 := ho.words
    have h2 := ho.own
    have h3 : (s.ths.flatMap telB).length ≤ 28 := by
      rw [← telBs_all]
      have : ∀ j, j ≤ s.ths.length → (telBs s j).length ≤ 7 * j := by
        intro j
        induction j with
        | zero => intro _; simp [telBs]
        | succ j ih =>
          intro hj
          rw [telBs_succ]
          have h1 := ih (by omega)
          have h2 := ho.wl j (by omega)
          have h3 : ((thOf s j).wait.flatMap telW).length = 2 * (thOf s j).wait.length := by
            generalize (thOf s j).wait = l
            induction l with
            | nil => rfl
            | cons a r ih => rw [List.flatMap_cons, List.length_append, ih]; simp [telW]; omega
          simp only [List.length_append, List.length_singleton, h3]
          omega
      have h4 := this _ (Nat.le_refl _)
      have h5 := ho.n4
      omega
    split
    · simp only [List.length_append]; omega
    · simp only [List.length_append, List.length_nil]; omega
  have HALL : Hid (telTs s n ++ telM Q.K.mode s ++ s.prints = telX Q.K.mode s) := by
    show _ = _
    rw [← hn, telTs_all]; rfl
  have c1 := (HB.out _ _ h0).1
  have H0 : Hid (I (telTs s 0) w) := h0
  clear hE hs hth htb hT ho hlen hn h0
  go_enter Tryz.func101, Tryz.ntmps101
  go_wp2_with fail
  go_loopw [10] (fun i wr => ∃ j : Nat, j ≤ n ∧ i = .int .i64 j ∧ Hid (I (telTs s j) wr)) (fun i _ => n - (intOf i).toNat)
  case atStart => exact ⟨0, Nat.zero_le _, rfl, H0⟩
  case round =>
    obtain ⟨j, hj, rfl, HI⟩ := hrel
    clear H0 c1
    obtain ⟨c1, c0⟩ := HB.out _ _ HI.out
    by_cases hlt : j < n
    · have cp := HP.out _ _ j hlt HI.out
      have hpc := HPC.out j hlt
      have hl := HL.out j (by omega)
      obtain ⟨pc, epc⟩ : ∃ x, (thOf s j).pc = x := ⟨_, rfl⟩
      have HEP : Hid ((thOf s j).pc = pc) := epc
      rw [epc] at cp hpc
      have HC1 := Hid.out (p := Hid _) (HT.out _ wr (pc : Int) ⟨by omega, by omega⟩ (by omega) HI.out)
      clear epc HI
      go_wp2_with fail
      refine Calls.mono HC1.out ?_
      rintro e w1 ⟨rfl, h1, _⟩
      obtain ⟨c11, _⟩ := HB.out _ _ h1
      obtain ⟨a, c, cr, HC2⟩ := HR.out _ _ j hlt (by rw [List.length_append]; simp only [List.length_singleton]; omega) h1
      obtain ⟨rl, erl⟩ : ∃ x, (thOf s j).regs.length = x := ⟨_, rfl⟩
      rw [erl] at cr HC2
      clear HC1 h1 erl c1 cp
      go_wp2_with fail
      refine Calls.mono HC2.out ?_
      rintro e w2 ⟨rfl, h2⟩
      have H2 : Hid (I (telTs s (j + 1)) w2) := by
        show I _ _
        rw [telTs_succ, HEP.out]
        exact h2
      clear HC2 h2
      go_wp2_with fail
      go_roundw
      case rel => exact ⟨j + 1, by omega, by go_num, H2⟩
      case measure => simp [intOf]; omega
    · obtain rfl : j = n := by omega
      have hl := HL.out j (Nat.le_refl _)
      have HC1 := Hid.out (p := Hid _) (HM.out _ wr (by omega) HI.out)
      clear HI
      go_wp2_with fail
      refine Calls.mono HC1.out ?_
      rintro e w1 ⟨rfl, h1⟩
      obtain ⟨a, c, cp, HC2⟩ := HPR.out _ _ (by rw [List.length_append]; have := HML.out; omega) h1
      obtain ⟨pl, epl⟩ : ∃ x, s.prints.length = x := ⟨_, rfl⟩
      rw [epl] at cp HC2
      clear HC1 h1 epl
      go_wp2_with fail
      refine Calls.mono HC2.out ?_
      rintro e w2 ⟨rfl, h2⟩
      have H2 : Hid (I (telX Q.K.mode s) w2) := by
        show I _ _
        rw [← HALL.out]
        exact h2
      clear HC2 h2
      go_wp2_with fail
      go_end0
      exact ⟨rfl, H2.out⟩
end

section
open Go.RowKit

/-- A list of outcomes lies in w. -/
def OsIn (w : World) (a : Option Addr) (l : List Oc) : Prop := ∀ i, i < l.length → ∃ b o wa wc pa pc, a = some ⟨b, o, none⟩ ∧ w.cell? ⟨b, o + i * 3, none⟩ = some (.int .i64 (l.getD i default).st) ∧ w.cell? ⟨b, o + i * 3 + 1, none⟩ = some (.slice wa (l.getD i default).ws.length wc) ∧ w.cell? ⟨b, o + i * 3 + 2, none⟩ = some (.slice pa (l.getD i default).pr.length pc) ∧ LI w wa (l.getD i default).ws ∧ LI w pa (l.getD i default).pr
theorem OsIn.below {w w' : World} {a : Option Addr} {l : List Oc} (h : OsIn w a l) (hb : Below w.heap.size w w') : OsIn w' a l := fun i hi => by
  obtain ⟨b, o, wa, wc, pa, pc, h1, h2, h3, h4, h5, h6⟩ := h i hi
  exact ⟨b, o, wa, wc, pa, pc, h1, (hb.cell (lt_of_cell h2)).trans h2, (hb.cell (lt_of_cell h3)).trans h3, (hb.cell (lt_of_cell h4)).trans h4, IIn.below h5 hb, IIn.below h6 hb⟩
/-- Few outcomes, each with few words and prints. -/
def OBd (l : List Oc) : Prop := l.length ≤ 100000 ∧ ∀ o, o ∈ l → o.ws.length ≤ 100000 ∧ o.pr.length ≤ 100000
theorem OBd.at {l : List Oc} (h : OBd l) {i : Nat} (hi : i < l.length) : (l.getD i default).ws.length ≤ 100000 ∧ (l.getD i default).pr.length ≤ 100000 := by
  refine h.2 _ ?_
  rw [List.getD_eq_getElem?_getD, List.getElem?_eq_getElem hi]
  exact List.getElem_mem hi
theorem otake_ext {x y : List Oc} {k : Nat} (h : x.take k = y.take k) (h1 : k < x.length) (h2 : k < y.length) (e : x.getD k default = y.getD k default) : x.take (k + 1) = y.take (k + 1) := by
  rw [List.getD_eq_getElem?_getD, List.getD_eq_getElem?_getD, List.getElem?_eq_getElem h1, List.getElem?_eq_getElem h2] at e
  rw [List.take_add_one, List.take_add_one, h, List.getElem?_eq_getElem h1, List.getElem?_eq_getElem h2, show x[k] = y[k] from e]

set_option maxRecDepth 100000 in
set_option maxHeartbeats 3200000 in
theorem rsame_any (a b : Option Addr) (x y : List Oc) (c d : Nat) (hx : OBd x) (hy : OBd y) (w : World) (h : OsIn w a x) (h' : OsIn w b y) :
    Calls Tryz.prog 12 #[.slice a x.length c, .slice b y.length d] w fun e w' => e = .returned (.bool (decide (x = y))) ∧ Below w.heap.size w w' := by
  have hn := hx.1
  have hm := hy.1
  by_cases hl : x.length = y.length
  rotate_left
  · have HE : Hid (decide (x = y) = false) := decide_eq_false (fun e => hl (by rw [e]))
    have hl' : ¬ (x.length : Int) = y.length := by omega
    go_enter Tryz.func12, Tryz.ntmps12
    go_wp2
    go_ret
    exact ⟨congrArg (fun b => Ending.returned (.bool b)) HE.out.symm, Below.refl _ _⟩
  obtain ⟨n, hxl⟩ : ∃ n, x.length = n := ⟨_, rfl⟩
  have hyl : y.length = n := by omega
  have hn' : n ≤ 100000 := by omega
  have HX : Hid (OBd x ∧ OsIn w a x ∧ x.length = n) := ⟨hx, h, hxl⟩
  have HY : Hid (OBd y ∧ OsIn w b y ∧ y.length = n) := ⟨hy, h', hyl⟩
  rw [hxl, hyl]
  clear h h' hx hy hl hn hm hxl hyl
  go_enter Tryz.func12, Tryz.ntmps12
  go_wp2
  go_loopw [5] (fun i wr => ∃ k : Nat, k ≤ n ∧ Hid (x.take k = y.take k) ∧ i = .int .i64 k ∧ Below w.heap.size w wr) (fun i _ => n - (intOf i).toNat)
  case atStart => exact ⟨0, Nat.zero_le _, rfl, rfl, Below.refl _ _⟩
  case round =>
    obtain ⟨k, hk, ht, rfl, hbr⟩ := hrel
    by_cases hlt : k < n
    · obtain ⟨x1, x2, x3⟩ := HX.out
      obtain ⟨y1, y2, y3⟩ := HY.out
      have hu1 := x1.at (i := k) (by omega)
      have hv1 := y1.at (i := k) (by omega)
      obtain ⟨b1, o1, wa, wc, pa, pc, rfl, c0, c1, c2, l1, l2⟩ := x2.below hbr k (by omega)
      obtain ⟨b2, o2, va, vc, qa, qc, rfl, d0, d1, d2, m1, m2⟩ := y2.below hbr k (by omega)
      have HT : Hid (x.getD k default = y.getD k default → x.take (k + 1) = y.take (k + 1)) := fun e => otake_ext ht.out (by omega) (by omega) e
      have HF : Hid (x.getD k default ≠ y.getD k default → decide (x = y) = false) := fun e => decide_eq_false (fun e2 => e (by rw [e2]))
      obtain ⟨u, hu⟩ : ∃ u, x.getD k default = u := ⟨_, rfl⟩
      obtain ⟨v, hv⟩ : ∃ v, y.getD k default = v := ⟨_, rfl⟩
      rw [hu] at c0 c1 c2 l1 l2 HT HF hu1
      rw [hv] at d0 d1 d2 m1 m2 HT HF hv1
      clear hu hv x1 x2 x3 y1 y2 y3
      obtain ⟨us, uw, up⟩ := u
      obtain ⟨vs, vw, vp⟩ := v
      simp only at c0 c1 c2 l1 l2 d0 d1 d2 m1 m2 hu1 hv1
      have HI1 : Hid (∀ W, Below wr.heap.size wr W → Calls Tryz.prog 30 #[.slice wa uw.length wc, .slice va vw.length vc] W fun e w' => e = .returned (.bool (decide (uw = vw))) ∧ Below wr.heap.size wr w') := fun W hb => (rints_any wa va uw vw wc vc hu1.1 hv1.1 W (IIn.below l1 hb) (IIn.below m1 hb)).mono fun e w' g => ⟨g.1, hb.trans (g.2.mono hb.size)⟩
      have HI2 : Hid (∀ W, Below wr.heap.size wr W → Calls Tryz.prog 30 #[.slice pa up.length pc, .slice qa vp.length qc] W fun e w' => e = .returned (.bool (decide (up = vp))) ∧ Below wr.heap.size wr w') := fun W hb => (rints_any pa qa up vp pc qc hu1.2 hv1.2 W (IIn.below l2 hb) (IIn.below m2 hb)).mono fun e w' g => ⟨g.1, hb.trans (g.2.mono hb.size)⟩
      clear l1 l2 m1 m2 hu1 hv1
      go_wp2_with (fail)
      refine region_tail 10 (by kernel_rfl) (by kernel_rfl) ?_
      simp only [List.take_succ_cons, List.take_zero, List.drop_succ_cons, List.drop_zero]
      repeat still_step
      refine wpStill_nil ?_
      go_wp2_with (fail)
      refine Calls.mono (HI1.out _ (Below.refl _ _).drew) ?_
      rintro e w1 ⟨rfl, hb1⟩
      have e0 := (hb1.cell (lt_of_cell c0)).trans c0
      have e1 := (hb1.cell (lt_of_cell c2)).trans c2
      have f0 := (hb1.cell (lt_of_cell d0)).trans d0
      have f1 := (hb1.cell (lt_of_cell d2)).trans d2
      go_wp2_with (fail)
      refine region_tail 10 (by kernel_rfl) (by kernel_rfl) ?_
      simp only [List.take_succ_cons, List.take_zero, List.drop_succ_cons, List.drop_zero]
      repeat still_step
      refine wpStill_nil ?_
      go_wp2_with (fail)
      refine Calls.mono (HI2.out _ hb1.drew) ?_
      rintro e w2 ⟨rfl, hb2⟩
      have g0 := (hb2.cell (lt_of_cell c0)).trans c0
      have g1 := (hb2.cell (lt_of_cell d0)).trans d0
      have hB2 : Below w.heap.size w w2 := hbr.trans (hb2.mono hbr.size)
      clear c0 c1 c2 d0 d1 d2 e0 e1 f0 f1 hb1 hb2 HI1 HI2
      by_cases q1 : us = vs
      · subst q1
        by_cases q2 : uw = vw
        · subst q2
          by_cases q3 : up = vp
          · subst q3
            have ht' : Hid (x.take (k + 1) = y.take (k + 1)) := HT.out rfl
            clear HT HF
            go_wp2
            go_region
            all_goals go_wp2
            all_goals go_roundw
            case rel => exact ⟨k + 1, by omega, ht', by go_num, hB2.drew⟩
            case measure => simp [intOf]; omega
          · have HE : Hid (decide (x = y) = false) := HF.out (by simpa using q3)
            rw [decide_eq_false q3]
            clear HT HF q3
            go_wp2
            go_region
            all_goals go_wp2
            all_goals go_ret
            all_goals exact ⟨congrArg (fun b => Ending.returned (.bool b)) HE.out.symm, hB2.drew⟩
        · have HE : Hid (decide (x = y) = false) := HF.out (fun e => q2 (by simp only [Oc.mk.injEq] at e; exact e.2.1))
          rw [decide_eq_false q2]
          clear HT HF q2
          go_wp2
          go_region
          all_goals go_wp2
          all_goals go_ret
          all_goals exact ⟨congrArg (fun b => Ending.returned (.bool b)) HE.out.symm, hB2.drew⟩
      · have HE : Hid (decide (x = y) = false) := HF.out (fun e => q1 (by simp only [Oc.mk.injEq] at e; exact e.1))
        have q1' : (us != vs) = true := by simpa using q1
        obtain ⟨bw, hbw⟩ : ∃ b, decide (uw = vw) = b := ⟨_, rfl⟩
        obtain ⟨bp, hbp⟩ : ∃ b, decide (up = vp) = b := ⟨_, rfl⟩
        rw [hbw, hbp]
        clear HT HF q1 hbw hbp HX HY ht
        go_wp2
        go_region
        all_goals go_wp2
        all_goals go_ret
        all_goals exact ⟨congrArg (fun b => Ending.returned (.bool b)) HE.out.symm, hB2.drew⟩
    · have HE : Hid (decide (x = y) = true) := decide_eq_true (by
        have := ht.out
        rwa [List.take_of_length_le (by rw [HX.out.2.2]; omega), List.take_of_length_le (by rw [HY.out.2.2]; omega)] at this)
      go_wp2
      go_ret
      exact ⟨congrArg (fun b => Ending.returned (.bool b)) HE.out.symm, hbr⟩
end

section
open Go.RowKit

/-- An outcome, and where its lists lie. -/
structure En where
  o : Oc
  wa : Option Addr
  wc : Nat
  pa : Option Addr
  pc : Nat
deriving Inhabited
abbrev enV (e : En) : Value := ocV e.o.st e.wa e.o.ws.length e.wc e.pa e.o.pr.length e.pc
def enC (e : En) (j : Nat) : Value := if j = 0 then .int .i64 e.o.st else if j = 1 then .slice e.wa e.o.ws.length e.wc else .slice e.pa e.o.pr.length e.pc
def ensV (es : List En) : List Value := rows3 es.length fun i j => enC (es.getD i default) j
structure EnOk (w : World) (e : En) : Prop where
  ws : LI w e.wa e.o.ws
  pr : LI w e.pa e.o.pr
  wl : e.o.ws.length ≤ 100000
  pl : e.o.pr.length ≤ 100000
theorem EnOk.below {w w' : World} {e : En} (h : EnOk w e) (hb : Below w.heap.size w w') : EnOk w' e := ⟨IIn.below h.ws hb, IIn.below h.pr hb, h.wl, h.pl⟩
theorem EnOk.oc {w : World} {e : En} (h : EnOk w e) : OcAt w (enV e) e.o := ⟨e.wa, e.wc, e.pa, e.pc, rfl, h.ws, h.pr⟩
/-- Outcomes lie in w, one behind the other. -/
def EIn (w : World) (a : Option Addr) (es : List En) : Prop := ∀ i, i < es.length → ∃ b o, a = some ⟨b, o, none⟩ ∧ w.cell? ⟨b, o + i * 3, none⟩ = some (.int .i64 (es.getD i default).o.st) ∧ w.cell? ⟨b, o + i * 3 + 1, none⟩ = some (.slice (es.getD i default).wa (es.getD i default).o.ws.length (es.getD i default).wc) ∧ w.cell? ⟨b, o + i * 3 + 2, none⟩ = some (.slice (es.getD i default).pa (es.getD i default).o.pr.length (es.getD i default).pc)
theorem EIn.below {w w' : World} {a : Option Addr} {es : List En} (h : EIn w a es) (hb : Below w.heap.size w w') : EIn w' a es := fun i hi => by
  obtain ⟨b, o, h1, h2, h3, h4⟩ := h i hi
  exact ⟨b, o, h1, (hb.cell (lt_of_cell h2)).trans h2, (hb.cell (lt_of_cell h3)).trans h3, (hb.cell (lt_of_cell h4)).trans h4⟩
/-- Outcomes that are being written. -/
structure IsO (w : World) (B : Nat) (a : Option Addr) (len c : Nat) (es : List En) : Prop where
  is : es.length = len
  own : w.ownsRow B 50 3 (.slice a len c) len (ensV es)
theorem IsO.nil (w : World) (B : Nat) : IsO w B none 0 0 [] := ⟨rfl, World.ownsRow_nil _ _ _ _⟩
theorem IsO.below {w w1 : World} {B : Nat} {a : Option Addr} {len c : Nat} {es : List En} (h : IsO w B a len c es) (hb : Below w.heap.size w w1) : IsO w1 B a len c es := ⟨h.is, fam_keeps h.own (fun g hg => hb.block g (h.own.lt g hg).2)⟩
theorem ensV_snoc (es : List En) (e : En) : ensV (es ++ [e]) = ensV es ++ [.int .i64 e.o.st, .slice e.wa e.o.ws.length e.wc, .slice e.pa e.o.pr.length e.pc] := by
  unfold ensV
  rw [List.length_append, List.length_singleton, rows3_snoc]
  congr 1
  · refine rows3_congr fun t j ht => ?_
    congr 1
    simp [List.getD, List.getElem?_append_left ht]
  · simp [enC, List.getD]
theorem infoOutcome : (Tryz.prog.info? 50).map (fun i => (i.zero, i.size, i.bytes)) = some (some (.agg #[.int .i64 0, nilV, nilV]), 3, 56) := by kernel_rfl
theorem IsO.push {w0 w W : World} {B : Nat} {a : Option Addr} {len c : Nat} {es : List En} (h : IsO w B a len c es) (hb : Below w.heap.size w W) (hB : B ≤ w.heap.size) (hlen : len ≤ 100000) (e : En) (h0 : Below B w0 W) :
    ∃ g cap w3, (AppS #[27, 27] 27 #[.slice a len c, .slice (some ⟨W.heap.size, 0, none⟩) 1 1]).run Tryz.prog (W.alloc (.cells #[.int .i64 e.o.st, .slice e.wa e.o.ws.length e.wc, .slice e.pa e.o.pr.length e.pc] 50)) = .ok (.slice (some ⟨g, 0, none⟩) (len + 1) cap) w3 ∧ Hid (IsO w3 B (some ⟨g, 0, none⟩) (len + 1) cap (es ++ [e]) ∧ Below B w0 w3) := by
  obtain ⟨g, cap, w3, r1, r2, r3, _⟩ := app_row (T := 27) Tryz.underlying27 infoOutcome rfl (by omega) h.own hb hB 1 #[.int .i64 e.o.st, .slice e.wa e.o.ws.length e.wc, .slice e.pa e.o.pr.length e.pc] rfl (by simp [Value.oneCell']) (by omega) (by omega) (by omega)
  have hBW := Nat.le_trans hB hb.size
  exact ⟨g, cap, w3, r1, ⟨by simp [h.is], by rw [ensV_snoc]; exact r2⟩, (h0.alloc hBW _).grown r3 (by simp; omega) (fun k hk => (h.own.lt k hk).1)⟩
/-- What Put leaves: all as it was, but the list of outcomes. -/
def PutQ (w : World) (pb : Nat) (e : En) (es : List En) (en : Ending) (w' : World) : Prop := en = .returned (.tuple #[]) ∧ ((Below w.heap.size w w' ∧ insO e.o (es.map En.o) = es.map En.o) ∨ ∃ w2 a len c es2, w' = w2.setCell ⟨pb, 4, none⟩ (.slice a len c) ∧ Below w.heap.size w w2 ∧ IsO w2 (w.heap.size + 1) a len c es2 ∧ es2.map En.o = insO e.o (es.map En.o) ∧ ∀ x, x ∈ es2 → x = e ∨ x ∈ es)
theorem map_getD {es : List En} {k : Nat} (hk : k < es.length) : (es.map En.o).getD k default = (es.getD k default).o := by
  simp [List.getD, List.getElem?_eq_getElem hk]

attribute [local go_sem ↓] appS_eq
set_option maxRecDepth 100000 in
set_option maxHeartbeats 3200000 in
theorem oput_any (w : World) (pb : Nat) (ea : Option Addr) (ec : Nat) (es : List En) (e : En) (h4 : w.cell? ⟨pb, 4, none⟩ = some (.slice ea es.length ec)) (hf4 : w.frozen? ⟨pb, 4, none⟩ = false) (hE : EIn w ea es) (hok : ∀ x, x ∈ es → EnOk w x) (he : EnOk w e) (hs : SortedO (es.map En.o)) (hn : es.length ≤ 90000) :
    Calls Tryz.prog 63 #[.pointer (some ⟨pb, 0, none⟩), enV e] w (PutQ w pb e es) := by
  have HI : Hid (∀ k, k < es.length → EnOk w (es.getD k default) ∧ es.getD k default ∈ es) := fun k hk => by
    have hm : es.getD k default ∈ es := by
      rw [List.getD_eq_getElem?_getD, List.getElem?_eq_getElem hk]; exact List.getElem_mem hk
    exact ⟨hok _ hm, hm⟩
  have HE : Hid (EIn w ea es ∧ EnOk w e ∧ SortedO (es.map En.o)) := ⟨hE, he, hs⟩
  obtain ⟨n, hnn⟩ : ∃ n, es.length = n := ⟨_, rfl⟩
  have HN : Hid (es.length = n) := hnn
  rw [hnn] at h4 hn HI
  clear hE hok he hs hnn
  obtain ⟨OC, hOC⟩ : ∃ o : Obj, o = .cells #[.int .i64 e.o.st, .slice e.wa e.o.ws.length e.wc, .slice e.pa e.o.pr.length e.pc] 50 := ⟨_, rfl⟩
  obtain ⟨V0, hV0⟩ : ∃ V, V = w.alloc OC := ⟨_, rfl⟩
  have hz0 : V0.heap.size = w.heap.size + 1 := by rw [hV0]; simp
  have hb0 : Below w.heap.size w V0 := by rw [hV0]; exact (Below.refl _ _).alloc (Nat.le_refl _) _
  have HB0 : Hid (∀ W, Below V0.heap.size V0 W → Below w.heap.size w W) := fun W h => hb0.trans (h.mono hb0.size)
  have kb : V0.heap[w.heap.size]? = some (.cells #[.int .i64 e.o.st, .slice e.wa e.o.ws.length e.wc, .slice e.pa e.o.pr.length e.pc] 50) := by
    rw [← hOC, hV0]
    exact heap_alloc_new w OC
  have HO : Hid (∀ W, Below V0.heap.size V0 W → (W.cell? ⟨w.heap.size, 0, none⟩ = some (.int .i64 e.o.st) ∧ W.cell? ⟨w.heap.size, 1, none⟩ = some (.slice e.wa e.o.ws.length e.wc) ∧ W.cell? ⟨w.heap.size, 2, none⟩ = some (.slice e.pa e.o.pr.length e.pc)) ∧ W.cell? ⟨pb, 4, none⟩ = some (.slice ea n ec)) := fun W h => by
    have k := (h.block w.heap.size (by omega)).trans kb
    exact ⟨⟨box_cell k rfl, box_cell k rfl, box_cell k rfl⟩, ((hb0.trans (h.mono hb0.size)).cell (lt_of_cell h4)).trans h4⟩
  have HV0 : Hid (w.alloc (.cells #[.int .i64 e.o.st, .slice e.wa e.o.ws.length e.wc, .slice e.pa e.o.pr.length e.pc] 50) = V0) := by show _ = _; rw [hV0, hOC]
  have lpb : pb < w.heap.size := lt_of_cell h4
  clear hOC hV0 hb0 kb
  go_enter Tryz.func63, Tryz.ntmps63
  go_wp2_with fail
  rw [HV0.out]
  go_loopw [4, 5, 6] (fun out dn i wr => ∃ (k : Nat) (d : Bool) (a : Option Addr) (len c : Nat) (es2 : List En), k ≤ n ∧ i = .int .i64 k ∧ dn = .bool d ∧ out = .slice a len c ∧ Hid (IsO wr V0.heap.size a len c es2 ∧ es2.map En.o = putK e.o (es.map En.o) d k ∧ PutI e.o (es.map En.o) d k ∧ (∀ x, x ∈ es2 → x = e ∨ x ∈ es) ∧ len ≤ k + 1) ∧ Below V0.heap.size V0 wr) (fun _ _ i _ => n - (intOf i).toNat)
  case atStart => exact ⟨0, false, none, 0, 0, [], Nat.zero_le _, rfl, rfl, rfl, ⟨IsO.nil _ _, rfl, PutI.start _ _, fun x hx => (by cases hx), by omega⟩, Below.refl _ _⟩
  case round =>
    obtain ⟨k, d, a, len, c, es2, hk, rfl, rfl, rfl, HJ, hbr⟩ := hrel
    obtain ⟨⟨o0, o1, o2⟩, h4r⟩ := HO.out _ hbr
    have hbw := HB0.out _ hbr
    by_cases hlt : k < n
    · obtain ⟨hx1, hx2⟩ := HI.out k hlt
      obtain ⟨b, o, rfl, Y0, Y1, Y2⟩ := HE.out.1 k (by rw [HN.out]; exact hlt)
      have HX : Hid (es.getD k default ∈ es ∧ (es.map En.o).getD k default = (es.getD k default).o ∧ k < (es.map En.o).length) := ⟨hx2, map_getD (by rw [HN.out]; exact hlt), by rw [List.length_map, HN.out]; exact hlt⟩
      obtain ⟨x, hx⟩ : ∃ x, es.getD k default = x := ⟨_, rfl⟩
      rw [hx] at hx1 HX Y0 Y1 Y2
      clear hx hx2
      have HYY : Hid (∀ W, Below w.heap.size w W → W.cell? ⟨b, o + k * 3, none⟩ = some (.int .i64 x.o.st) ∧ W.cell? ⟨b, o + k * 3 + 1, none⟩ = some (.slice x.wa x.o.ws.length x.wc) ∧ W.cell? ⟨b, o + k * 3 + 2, none⟩ = some (.slice x.pa x.o.pr.length x.pc)) := fun W h => ⟨(h.cell (lt_of_cell Y0)).trans Y0, (h.cell (lt_of_cell Y1)).trans Y1, (h.cell (lt_of_cell Y2)).trans Y2⟩
      obtain ⟨y0, y1, y2⟩ := HYY.out _ hbw
      clear Y0 Y1 Y2
      have HA1 : Hid (∀ W, Below V0.heap.size V0 W → Calls Tryz.prog 94 #[enV e, enV x] W fun en w' => en = .returned (.bool (aheadO e.o x.o)) ∧ Below V0.heap.size V0 w' ∧ Below W.heap.size W w') := fun W hb => (ahead_any W _ _ _ _ (HE.out.2.1.below (HB0.out _ hb)).oc (hx1.below (HB0.out _ hb)).oc HE.out.2.1.wl hx1.wl HE.out.2.1.pl hx1.pl).mono fun _ _ g => ⟨g.1, hb.trans (g.2.mono hb.size), g.2⟩
      have HA2 : Hid (∀ W, Below V0.heap.size V0 W → Calls Tryz.prog 94 #[enV x, enV e] W fun en w' => en = .returned (.bool (aheadO x.o e.o)) ∧ Below V0.heap.size V0 w' ∧ Below W.heap.size W w') := fun W hb => (ahead_any W _ _ _ _ (hx1.below (HB0.out _ hb)).oc (HE.out.2.1.below (HB0.out _ hb)).oc hx1.wl HE.out.2.1.wl hx1.pl HE.out.2.1.pl).mono fun _ _ g => ⟨g.1, hb.trans (g.2.mono hb.size), g.2⟩
      clear hx1 HI
      go_wp2_with fail
      refine region_tail 8 (by kernel_rfl) (by kernel_rfl) ?_
      simp only [List.take_succ_cons, List.take_zero, List.drop_succ_cons, List.drop_zero]
      repeat still_step
      refine wpStill_nil ?_
      go_wp2_with fail
      refine Calls.mono (HA1.out _ hbr.drew) ?_
      rintro en w1 ⟨rfl, hb1, hc1⟩
      have hI1 := (HJ.out.1.below (Below.refl _ _).drew).below hc1
      obtain ⟨⟨p0, p1, p2⟩, p4⟩ := HO.out _ hb1
      obtain ⟨z0, z1, z2⟩ := HYY.out _ (HB0.out _ hb1)
      have HI1 := Hid.out (p := Hid _) hI1
      clear hI1 hc1 y0 y1 y2 o0 o1 o2 h4r HA1
      go_wp2_with fail
      refine region_tail 8 (by kernel_rfl) (by kernel_rfl) ?_
      simp only [List.take_succ_cons, List.take_zero, List.drop_succ_cons, List.drop_zero]
      repeat still_step
      refine wpStill_nil ?_
      go_wp2_with fail
      refine Calls.mono (HA2.out _ hb1.drew) ?_
      rintro en w2 ⟨rfl, hb2, hc2⟩
      have HI2 := Hid.out (p := Hid _) ((IsO.below HI1.out (Below.refl _ _).drew).below hc2)
      obtain ⟨⟨o0, o1, o2⟩, o4⟩ := HO.out _ hb2
      obtain ⟨y0, y1, y2⟩ := HYY.out _ (HB0.out _ hb2)
      have hbw2 := HB0.out _ hb2
      clear hc2 p0 p1 p2 p4 z0 z1 z2 HA2 HI1
      have HLEN : len ≤ 90001 := by have := HJ.out.2.2.2.2; omega
      obtain ⟨A, hA⟩ : ∃ A, aheadO e.o x.o = A := ⟨_, rfl⟩
      obtain ⟨Bt, hBt⟩ : ∃ A, aheadO x.o e.o = A := ⟨_, rfl⟩
      rw [hA, hBt]
      have HAB : Hid (aheadO e.o x.o = A ∧ aheadO x.o e.o = Bt) := ⟨hA, hBt⟩
      clear hA hBt
      have hsz2 : V0.heap.size ≤ w2.heap.size := hb2.size
      by_cases hno : A = false ∧ Bt = false
      · obtain ⟨rfl, rfl⟩ := hno
        have HTH : Hid (insO e.o (es.map En.o) = es.map En.o) := HJ.out.2.2.1.there HE.out.2.2 HX.out.2.2 (by rw [HX.out.2.1]; exact HAB.out.1) (by rw [HX.out.2.1]; exact HAB.out.2)
        go_wp2
        go_end0
        exact ⟨rfl, Or.inl ⟨hbw2, HTH.out⟩⟩
      by_cases hnow : A = true ∧ d = false
      · obtain ⟨rfl, rfl⟩ := hnow
        have HK : Hid (PutI e.o (es.map En.o) true (k + 1) ∧ putK e.o (es.map En.o) true (k + 1) = putK e.o (es.map En.o) false k ++ [e.o] ++ [x.o]) := by
          rw [← HX.out.2.1]
          exact HJ.out.2.2.1.now HX.out.2.2 (by rw [HX.out.2.1]; exact HAB.out.1)
        obtain ⟨g, cap, w3, hrun, HS⟩ := HI2.out.push (Below.refl _ _) hsz2 (by omega) e hb2
        obtain ⟨_, p4⟩ := HO.out _ HS.out.2
        obtain ⟨z0, z1, z2⟩ := HYY.out _ (HB0.out _ HS.out.2)
        obtain ⟨g4, cap4, w4, hrun4, HS4⟩ := HS.out.1.push (Below.refl _ _) HS.out.2.size (by omega) x HS.out.2
        have HR : Hid (IsO w4 V0.heap.size (some ⟨g4, 0, none⟩) (len + 1 + 1) cap4 (es2 ++ [e] ++ [x]) ∧ (es2 ++ [e] ++ [x]).map En.o = putK e.o (es.map En.o) true (k + 1) ∧ PutI e.o (es.map En.o) true (k + 1) ∧ (∀ y, y ∈ es2 ++ [e] ++ [x] → y = e ∨ y ∈ es) ∧ len + 1 + 1 ≤ k + 1 + 1) := ⟨HS4.out.1, by rw [List.map_append, List.map_append, HJ.out.2.1, HK.out.2]; rfl, HK.out.1, fun y hy => by
          rcases List.mem_append.mp hy with hy | hy
          · rcases List.mem_append.mp hy with hy | hy
            · exact HJ.out.2.2.2.1 y hy
            · exact Or.inl (List.mem_singleton.mp hy)
          · exact Or.inr (by rw [List.mem_singleton.mp hy]; exact HX.out.1), by
          have h1 := HJ.out.1.is
          have h2 := congrArg List.length HJ.out.2.1
          have h3 : (putK e.o (es.map En.o) false k).length ≤ k := by unfold putK; rw [if_neg (by simp), List.length_take]; omega
          rw [List.length_map] at h2
          omega⟩
        have HBW : Hid (Below V0.heap.size V0 w4) := HS4.out.2
        clear HS HS4 HK HI2 HJ HX HAB hno
        go_wp2
        go_roundw
        case rel => exact ⟨k + 1, true, _, _, _, _, by omega, by go_num, rfl, rfl, HR, HBW.out⟩
        case measure => simp [intOf]; omega
      · have HK : Hid (PutI e.o (es.map En.o) d (k + 1) ∧ putK e.o (es.map En.o) d (k + 1) = putK e.o (es.map En.o) d k ++ [x.o]) := by
          rw [← HX.out.2.1]
          cases d with
          | true => exact HJ.out.2.2.1.later HX.out.2.2 rfl
          | false =>
            refine HJ.out.2.2.1.skip HX.out.2.2 ?_
            rw [HX.out.2.1, HAB.out.2]
            cases A with
            | true => exact absurd ⟨rfl, rfl⟩ hnow
            | false =>
              cases Bt with
              | true => rfl
              | false => exact absurd ⟨rfl, rfl⟩ hno
        obtain ⟨g, cap, w3, hrun, HS⟩ := HI2.out.push (Below.refl _ _) hsz2 (by omega) x hb2
        have HR : Hid (IsO w3 V0.heap.size (some ⟨g, 0, none⟩) (len + 1) cap (es2 ++ [x]) ∧ (es2 ++ [x]).map En.o = putK e.o (es.map En.o) d (k + 1) ∧ PutI e.o (es.map En.o) d (k + 1) ∧ (∀ y, y ∈ es2 ++ [x] → y = e ∨ y ∈ es) ∧ len + 1 ≤ k + 1 + 1) := ⟨HS.out.1, by rw [List.map_append, HJ.out.2.1, HK.out.2]; rfl, HK.out.1, fun y hy => by
          rcases List.mem_append.mp hy with hy | hy
          · exact HJ.out.2.2.2.1 y hy
          · exact Or.inr (by rw [List.mem_singleton.mp hy]; exact HX.out.1), by have := HJ.out.2.2.2.2; omega⟩
        have HBW : Hid (Below V0.heap.size V0 w3) := HS.out.2
        clear HS HK HI2 HJ HX HAB
        cases A with
        | true =>
          cases d with
          | false => exact absurd ⟨rfl, rfl⟩ hnow
          | true =>
            clear hno hnow
            go_wp2
            go_roundw
            case rel => exact ⟨k + 1, true, _, _, _, _, by omega, by go_num, rfl, rfl, HR, HBW.out⟩
            case measure => simp [intOf]; omega
        | false =>
          cases Bt with
          | false => exact absurd ⟨rfl, rfl⟩ hno
          | true =>
            clear hno hnow
            go_wp2
            go_roundw
            case rel => exact ⟨k + 1, d, _, _, _, _, by omega, by go_num, rfl, rfl, HR, HBW.out⟩
            case measure => simp [intOf]; omega
    · obtain rfl : k = n := by omega
      have HLA : Hid (insO e.o (es.map En.o) = if d then putK e.o (es.map En.o) true k else putK e.o (es.map En.o) false k ++ [e.o]) := by
        have hl : (es.map En.o).length = k := by rw [List.length_map, HN.out]
        have := HJ.out.2.2.1
        rw [← hl] at this
        have h2 := this.last
        rw [hl] at h2
        exact h2
      have hf4r : wr.frozen? ⟨pb, 4, none⟩ = false := (World.frozen?_of_block (hbw.block _ lpb)).trans hf4
      have hsz2 : V0.heap.size ≤ wr.heap.size := hbr.size
      have hlen : len ≤ 90001 := by have := HJ.out.2.2.2.2; omega
      cases d with
      | true =>
        have HR : Hid (PutQ w pb e es (.returned (.tuple #[])) (wr.setCell ⟨pb, 4, none⟩ (.slice a len c))) := ⟨rfl, Or.inr ⟨wr, a, len, c, es2, rfl, hbw, by rw [← hz0]; exact HJ.out.1, by rw [HJ.out.2.1, HLA.out, if_pos rfl], HJ.out.2.2.2.1⟩⟩
        clear HJ HLA
        go_wp2
        go_end0
        exact HR.out
      | false =>
        obtain ⟨g, cap, w3, hrun, HS⟩ := HJ.out.1.push (Below.refl _ _) hsz2 (by omega) e hbr
        have hbw3 := HB0.out _ HS.out.2
        have f3 : w3.frozen? ⟨pb, 4, none⟩ = false := (World.frozen?_of_block (hbw3.block _ lpb)).trans hf4
        have h43 := (HO.out _ HS.out.2).2
        have HR : Hid (PutQ w pb e es (.returned (.tuple #[])) (w3.setCell ⟨pb, 4, none⟩ (.slice (some ⟨g, 0, none⟩) (len + 1) cap))) := ⟨rfl, Or.inr ⟨w3, _, _, _, es2 ++ [e], rfl, hbw3, by rw [← hz0]; exact HS.out.1, by rw [List.map_append, HJ.out.2.1, HLA.out, if_neg (by simp)]; rfl, fun y hy => by
          rcases List.mem_append.mp hy with hy | hy
          · exact HJ.out.2.2.2.1 y hy
          · exact Or.inl (List.mem_singleton.mp hy)⟩⟩
        clear HJ HLA HS
        go_wp2
        go_end0
        exact HR.out
end

end Go.Proofs.YtipdnfpomdcenabGreatDoor
