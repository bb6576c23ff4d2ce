/-
  The box of a program that was handed in.
  What the memories tell, and a state.
  What the program tells of a state, in whichever memory.
  Copies of memories.
  A program and a script that are handed in, opened.
-/
import Derived.Test.YtipdnfpomdcenacGreatDoorOrder
import Derived.Test.YtipdnfpomdcenacGreatDoorPlain
import Derived.Test.YtipdnfpomdcenacGreatDoorPPlainK
import Derived.Test.YtipdnfpomdcenacGreatDoorPNew
import Derived.Deep.RegionHeld3
import Derived.Test.YtipdnfpomdcenacGreatDoorRDo6
namespace Go.Proofs.YtipdnfpomdcenacGreatDoor
section
open Go.RowKit

abbrev boxQ (ca : Option Addr) (n cc : Nat) (wa : Option Addr) (m wc : Nat) (lk rg : Int) : Obj := .cells #[.slice ca n cc, .slice wa m wc, .int .i64 lk, .int .i64 rg] 25

theorem box_lt {w : World} {g : Nat} {o : Obj} (h : w.heap[g]? = some o) : g < w.heap.size := by
  rcases Nat.lt_or_ge g w.heap.size with h1 | h1
  · exact h1
  · rw [Array.getElem?_eq_none h1] at h; cases h

theorem heap_set_same {w : World} {g i : Nat} {cs : Array Value} {t : TypeId} {u : Value} (h : w.heap[g]? = some (.cells cs t)) : (w.setCell ⟨g, i, none⟩ u).heap[g]? = some (.cells (cs.setIfInBounds i u) t) := by
  simp only [World.setCell, Array.getElem?_modify, if_true, h, Option.map_some]
  rfl

theorem own_type {w : World} {B : Nat} {e t : TypeId} {size : Nat} {v : Value} {n g : Nat} {xs : List Value} {c : Array Value} (h : w.ownsRow B e size v n xs) (hg : w.heap[g]? = some (.cells c t (0, 0))) (hne : e ≠ t) : v.ownBlock ≠ some g := fun e1 => by
  rcases h.2 with ⟨h0, _⟩ | ⟨g', cap, cur, hv, _, hh, _⟩
  · rw [h0] at e1; simp [Value.ownBlock] at e1
  · rw [hv] at e1
    have e2 : g' = g := by simpa [Value.ownBlock] using e1
    subst e2
    rw [hh] at hg
    simp only [Option.some.injEq, Obj.cells.injEq] at hg
    exact hne hg.2.1
theorem box_cell {w : World} {g i : Nat} {cs : Array Value} {t : TypeId} {u : Value} (h : w.heap[g]? = some (.cells cs t)) (hi : cs[i]? = some u) : w.cell? ⟨g, i, none⟩ = some u := by
  simp [World.cell?, h, hi]
theorem box_free {w : World} {g i : Nat} {cs : Array Value} {t : TypeId} (h : w.heap[g]? = some (.cells cs t)) : w.frozen? ⟨g, i, none⟩ = false := by
  simp [World.frozen?, h]
theorem box_later {w : World} {g : Nat} {o : Obj} (h : w.heap[g]? = some o) (p : Obj) : (w.alloc p).heap[g]? = some o := by
  have hl : g < w.heap.size := by
    rcases Nat.lt_or_ge g w.heap.size with h1 | h1
    · exact h1
    · rw [Array.getElem?_eq_none h1] at h; cases h
  exact (((Below.refl w.heap.size w).alloc (Nat.le_refl _) p).block _ hl).trans h
end

section
open Go.RowKit

section
variable {fid : Nat} {caps : Array Value} {B : Nat} {Q : Cd} {sb mb : Nat} {v : Rp → Value} {s : Sx} {I : List Int → World → Prop}
theorem Ear.words (hE : Ear fid caps B Q sb mb v s I) {W : World} {xs : List Int} (h0 : I xs W) (hfit : ∀ x, x ∈ s.words → I64n x) (hlen : xs.length + s.words.length ≤ 20000) : ∃ a c, v .words = .slice a s.words.length c ∧ Hid (Calls Tryz.prog 83 #[.slice a s.words.length c, .func (.func fid) #[] caps] W fun e w' => e = .returned (.tuple #[]) ∧ I (xs ++ s.words) w') := by
  obtain ⟨a, c, e, _⟩ := (hE.st _ _ h0).rowW
  refine ⟨a, c, e, tellAll_any W fid caps B Q sb mb v s I hE a c s.words xs (fun ys V hV => ?_) hfit hlen h0⟩
  obtain ⟨a', c', e', h⟩ := (hE.st _ _ hV).rowW
  rw [e] at e'
  simp only [Value.slice.injEq] at e'
  rw [e'.1]; exact h
theorem Ear.own (hE : Ear fid caps B Q sb mb v s I) {W : World} {xs : List Int} (h0 : I xs W) (hfit : ∀ x, x ∈ s.own → I64n x) (hlen : xs.length + s.own.length ≤ 20000) : ∃ a c, v .own = .slice a s.own.length c ∧ Hid (Calls Tryz.prog 83 #[.slice a s.own.length c, .func (.func fid) #[] caps] W fun e w' => e = .returned (.tuple #[]) ∧ I (xs ++ s.own) w') := by
  obtain ⟨a, c, e, _⟩ := (hE.st _ _ h0).rowO
  refine ⟨a, c, e, tellAll_any W fid caps B Q sb mb v s I hE a c s.own xs (fun ys V hV => ?_) hfit hlen h0⟩
  obtain ⟨a', c', e', h⟩ := (hE.st _ _ hV).rowO
  rw [e] at e'
  simp only [Value.slice.injEq] at e'
  rw [e'.1]; exact h
theorem Ear.prints (hE : Ear fid caps B Q sb mb v s I) {W : World} {xs : List Int} (h0 : I xs W) (hfit : ∀ x, x ∈ s.prints → I64n x) (hlen : xs.length + s.prints.length ≤ 20000) : ∃ a c, v .prints = .slice a s.prints.length c ∧ Hid (Calls Tryz.prog 83 #[.slice a s.prints.length c, .func (.func fid) #[] caps] W fun e w' => e = .returned (.tuple #[]) ∧ I (xs ++ s.prints) w') := by
  obtain ⟨a, c, e, _⟩ := (hE.st _ _ h0).rowP
  refine ⟨a, c, e, tellAll_any W fid caps B Q sb mb v s I hE a c s.prints xs (fun ys V hV => ?_) hfit hlen h0⟩
  obtain ⟨a', c', e', h⟩ := (hE.st _ _ hV).rowP
  rw [e] at e'
  simp only [Value.slice.injEq] at e'
  rw [e'.1]; exact h
theorem Ear.regs (hE : Ear fid caps B Q sb mb v s I) {W : World} {xs : List Int} (h0 : I xs W) (t : Nat) (hfit : ∀ x, x ∈ (thOf s t).regs → I64n x) (hlen : xs.length + (thOf s t).regs.length ≤ 20000) : ∃ a c, v (.regs t) = .slice a (thOf s t).regs.length c ∧ Hid (Calls Tryz.prog 83 #[.slice a (thOf s t).regs.length c, .func (.func fid) #[] caps] W fun e w' => e = .returned (.tuple #[]) ∧ I (xs ++ (thOf s t).regs) w') := by
  obtain ⟨a, c, e, _⟩ := (hE.st _ _ h0).rowR t
  refine ⟨a, c, e, tellAll_any W fid caps B Q sb mb v s I hE a c (thOf s t).regs xs (fun ys V hV => ?_) hfit hlen h0⟩
  obtain ⟨a', c', e', h⟩ := (hE.st _ _ hV).rowR t
  rw [e] at e'
  simp only [Value.slice.injEq] at e'
  rw [e'.1]; exact h
end

set_option maxRecDepth 100000 in
set_option maxHeartbeats 1600000 in
/-- What the plain memory tells. -/
theorem ptell_any (w : World) (fid : Nat) (caps : Array Value) (B : Nat) (Q : Cd) (sb mb : Nat) (v : Rp → Value) (s : Sx) (I : List Int → World → Prop) (hE : Ear fid caps B Q sb mb v s I) (xs : List Int) (hf1 : ∀ x, x ∈ s.words → I64n x) (hf2 : ∀ x, x ∈ s.own → I64n x) (hlen : xs.length + s.words.length + s.own.length ≤ 20000) (h0 : I xs w) :
    Calls Tryz.prog 157 #[.pointer (some ⟨mb, 0, none⟩), .func (.func fid) #[] caps] w fun e w' => e = .returned (.tuple #[]) ∧ I (xs ++ s.words ++ s.own) w' := by
  obtain ⟨wa, wc, ew, HC1⟩ := hE.words h0 hf1 (by omega)
  have m0 := (hE.st _ _ h0).m0
  rw [ew] at m0
  have HC2 : Hid (∀ W, I (xs ++ s.words) W → ∃ a c, W.cell? ⟨mb, 1, none⟩ = some (.slice a s.own.length c) ∧ Hid (Calls Tryz.prog 83 #[.slice a s.own.length c, .func (.func fid) #[] caps] W fun e w' => e = .returned (.tuple #[]) ∧ I (xs ++ s.words ++ s.own) w')) := fun W h => by
    obtain ⟨a, c, e, h2⟩ := hE.own h hf2 (by rw [List.length_append]; exact hlen)
    have m1 := (hE.st _ _ h).m1
    rw [e] at m1
    exact ⟨a, c, m1, h2⟩
  obtain ⟨n, hn⟩ : ∃ n, s.words.length = n := ⟨_, rfl⟩
  obtain ⟨k, hk⟩ : ∃ n, s.own.length = n := ⟨_, rfl⟩
  rw [hn] at m0 HC1
  rw [hk] at HC2
  clear hE ew h0 hlen hn hk hf1 hf2
  go_enter Tryz.func157, Tryz.ntmps157
  go_wp2_with fail
  refine Calls.mono HC1.out ?_
  rintro e w1 ⟨rfl, h1⟩
  obtain ⟨oa, oc, m1, HC3⟩ := HC2.out w1 h1
  clear h1 HC1 HC2
  go_wp2_with fail
  refine Calls.mono HC3.out ?_
  rintro e w2 ⟨rfl, h2⟩
  go_wp2_with fail
  go_end0
  exact ⟨rfl, h2⟩

/-- What waits of the first j threads, as numbers. -/
def telBs (s : Sx) (j : Nat) : List Int := (List.range j).flatMap fun t => telB (thOf s t)
theorem telBs_all (s : Sx) : telBs s s.ths.length = s.ths.flatMap telB := by
  unfold telBs
  conv => rhs; rw [show s.ths = (List.range s.ths.length).map (thOf s) by
    refine List.ext_getElem? fun i => ?_
    rw [List.getElem?_map]
    by_cases h : i < s.ths.length
    · rw [List.getElem?_range h, List.getElem?_eq_getElem h]
      show _ = some (thOf s i)
      unfold thOf
      rw [List.getD_eq_getElem?_getD, List.getElem?_eq_getElem h]; rfl
    · rw [List.getElem?_eq_none (by omega), List.getElem?_eq_none (by simpa using h)]; rfl]
  rw [List.flatMap_map]
theorem telBs_succ (s : Sx) (j : Nat) : telBs s (j + 1) = telBs s j ++ ([((thOf s j).wait.length : Int)] ++ (thOf s j).wait.flatMap telW) := by
  unfold telBs
  rw [List.range_succ, List.flatMap_append]
  simp [telB]
end

section
open Go.RowKit

/-- What must be known of a state that is told. -/
structure TOk (Q : Cd) (s : Sx) : Prop where
  nt : Q.nt = s.ths.length
  n0 : 0 < s.ths.length
  n4 : s.ths.length ≤ 4
  pc : ∀ t, t < s.ths.length → (thOf s t).pc ≤ 400
  rg : ∀ t, t < s.ths.length → (thOf s t).regs.length ≤ 200
  wl : ∀ t, t < s.ths.length → (thOf s t).wait.length ≤ 3
  wk : ∀ t, t < s.ths.length → ∀ x, x ∈ (thOf s t).wait → 0 ≤ x.wh ∧ x.wh ≤ 64
  words : s.words.length ≤ 64
  own : s.own.length ≤ 4
  pr : s.prints.length ≤ 10000
  v : VOk s
/-- What a kind of memory tells. -/
structure MTell (K : Mk) (tf : Nat) : Prop where
  mTell : ∀ (a : Addr) (w : World), (method 346 K.tid (.pointer (some a)) "Tell").run Tryz.prog w = .ok (tf, .pointer (some a)) w
  cTell : ∀ (xs : Array Value) (w : World), (callFunc tf xs).run Tryz.prog w = .ok (.enter tf xs) w
  tell : ∀ (w : World) (fid : Nat) (caps : Array Value) (B : Nat) (Q : Cd) (sb mb : Nat) (v : Rp → Value) (s : Sx) (I : List Int → World → Prop) (xs : List Int), Q.K = K → Ear fid caps B Q sb mb v s I → TOk Q s → xs.length ≤ 10000 → I xs w →
    Calls Tryz.prog tf #[.pointer (some ⟨Q.top mb, 0, none⟩), .func (.func fid) #[] caps] w fun e w' => e = .returned (.tuple #[]) ∧ I (xs ++ telM K.mode s) w'
theorem plain_tell : MTell plainK 157 where
  mTell a w := by kernel_rfl
  cTell xs w := by kernel_rfl
  tell w fid caps B Q sb mb v s I xs hK hE ho hx h0 := by
    rw [plain_top hK]
    have h1 := ho.words
    have h2 := ho.own
    refine (ptell_any w fid caps B Q sb mb v s I hE xs ho.v.words ho.v.own (by omega) h0).mono fun e w' h => ⟨h.1, ?_⟩
    have e : telM plainK.mode s = s.words ++ s.own := by
      unfold telM
      rw [if_neg (by decide), List.append_nil]
    rw [e, ← List.append_assoc]
    exact h.2
/-- What is told of the first j threads. -/
def telTs (s : Sx) (j : Nat) : List Int := (List.range j).flatMap fun t => telT (thOf s t)
theorem telTs_all (s : Sx) : telTs s s.ths.length = s.ths.flatMap telT := by
  unfold telTs
  conv => rhs; rw [show s.ths = (List.range s.ths.length).map (thOf s) by
    refine List.ext_getElem? fun i => ?_
    rw [List.getElem?_map]
    by_cases h : i < s.ths.length
    · rw [List.getElem?_range h, List.getElem?_eq_getElem h]
      show _ = some (thOf s i)
      unfold thOf
      rw [List.getD_eq_getElem?_getD, List.getElem?_eq_getElem h]; rfl
    · rw [List.getElem?_eq_none (by omega), List.getElem?_eq_none (by simpa using h)]; rfl]
  rw [List.flatMap_map]
theorem telTs_succ (s : Sx) (j : Nat) : telTs s (j + 1) = telTs s j ++ [((thOf s j).pc : Int)] ++ (thOf s j).regs := by
  unfold telTs
  rw [List.range_succ, List.flatMap_append]
  simp [telT]

set_option maxRecDepth 100000 in
set_option maxHeartbeats 3200000 in
/-- What is told of a state. -/
theorem stell_any (w : World) (fid : Nat) (caps : Array Value) (B : Nat) (Q : Cd) (sb mb : Nat) (v : Rp → Value) (s : Sx) (I : List Int → World → Prop) (hE : Ear fid caps B Q sb mb v s I) (tf : Nat) (hT : MTell Q.K tf) (ho : TOk Q s) (h0 : I [] w) :
    Calls Tryz.prog 55 #[.pointer (some ⟨sb, 0, none⟩), .func (.func fid) #[] caps] w fun e w' => e = .returned (.tuple #[]) ∧ I (telX Q.K.mode s) w' := by
  have hs := hE.st _ _ h0
  obtain ⟨tb, tc, hth, htb, _⟩ := hs.blk .thr (by show 0 < s.ths.length; exact ho.n0)
  change v .thr = .slice (some ⟨tb, 0, none⟩) s.ths.length tc at hth
  have kF := hE.fn
  have mT := hT.mTell
  have kT := hT.cTell
  obtain ⟨n, hn⟩ : ∃ n, s.ths.length = n := ⟨_, rfl⟩
  have hn4 : n ≤ 4 := by rw [← hn]; exact ho.n4
  have hlen : ∀ j, j ≤ n → (telTs s j).length ≤ 201 * j := by
    intro j
    induction j with
    | zero => intro _; simp [telTs]
    | succ j ih =>
      intro hj
      rw [telTs_succ]
      have h1 := ih (by omega)
      have h2 := ho.rg j (by omega)
      simp only [List.length_append, List.length_singleton]
      omega
  have HB : Hid (∀ ys W, I ys W → W.cell? ⟨sb, 1, none⟩ = some (.slice (some ⟨tb, 0, none⟩) n tc) ∧ W.cell? ⟨sb, 0, none⟩ = some (.iface Q.K.tid (.pointer (some ⟨Q.top mb, 0, none⟩)))) := fun ys W h => by
    have hq := hE.st _ _ h
    have c1 := hq.c1
    rw [hth, hn] at c1
    exact ⟨c1, hq.c0⟩
  have HP : Hid (∀ ys W j, j < n → I ys W → W.cell? ⟨tb, j * 3 + 1, none⟩ = some (.int .i64 (thOf s j).pc)) := fun ys W j hj h => (hE.st _ _ h).pc htb (by omega)
  have HR : Hid (∀ ys W j, j < n → ys.length ≤ 10000 → I ys W → ∃ a c, W.cell? ⟨tb, j * 3 + 2, none⟩ = some (.slice a (thOf s j).regs.length c) ∧ Hid (Calls Tryz.prog 83 #[.slice a (thOf s j).regs.length c, .func (.func fid) #[] caps] W fun e w' => e = .returned (.tuple #[]) ∧ I (ys ++ (thOf s j).regs) w')) := fun ys W j hj hy h => by
    have hjs : j < s.ths.length := by omega
    obtain ⟨a, c, e, hc⟩ := hE.regs h j (fun x hx => ho.v.regs _ (thOf_mem hjs) x hx) (by have := ho.rg j hjs; omega)
    have := (hE.st _ _ h).regs htb hjs
    rw [e] at this
    exact ⟨a, c, this, hc⟩
  have HT : Hid (∀ ys W m, I64n m → ys.length ≤ 20000 → I ys W → Calls Tryz.prog fid (#[.int .i64 m] ++ caps) W fun e W' => e = .returned (.tuple #[]) ∧ I (ys ++ [m]) W' ∧ Txt W W') := hE.tell
  have HM : Hid (∀ ys W, ys.length ≤ 10000 → I ys W → Calls Tryz.prog tf #[.pointer (some ⟨Q.top mb, 0, none⟩), .func (.func fid) #[] caps] W fun e w' => e = .returned (.tuple #[]) ∧ I (ys ++ telM Q.K.mode s) w') := fun ys W hy h => hT.tell W fid caps B Q sb mb v s I ys rfl hE ho hy h
  have HPR : Hid (∀ ys W, ys.length ≤ 10000 → I ys W → ∃ a c, W.cell? ⟨sb, 2, none⟩ = some (.slice a s.prints.length c) ∧ Hid (Calls Tryz.prog 83 #[.slice a s.prints.length c, .func (.func fid) #[] caps] W fun e w' => e = .returned (.tuple #[]) ∧ I (ys ++ s.prints) w')) := fun ys W hy h => by
    obtain ⟨a, c, e, hc⟩ := hE.prints h ho.v.prints (by have := ho.pr; omega)
    have := (hE.st _ _ h).c2
    rw [e] at this
    exact ⟨a, c, this, hc⟩
  have HPC : Hid (∀ j, j < n → (thOf s j).pc ≤ 400) := fun j hj => ho.pc j (by omega)
  have HL := Hid.out (p := Hid _) hlen
  have HML : Hid ((telM Q.K.mode s).length ≤ 200) := by
    show _ ≤ _
    unfold telM
    have h1 := ho.words
    have h2 := ho.own
    have h3 : (s.ths.flatMap telB).length ≤ 28 := by
      rw [← telBs_all]
      have : ∀ j, j ≤ s.ths.length → (telBs s j).length ≤ 7 * j := by
        intro j
        induction j with
        | zero => intro _; simp [telBs]
        | succ j ih =>
          intro hj
          rw [telBs_succ]
          have h1 := ih (by omega)
          have h2 := ho.wl j (by omega)
          have h3 : ((thOf s j).wait.flatMap telW).length = 2 * (thOf s j).wait.length := by
            generalize (thOf s j).wait = l
            induction l with
            | nil => rfl
            | cons a r ih => rw [List.flatMap_cons, List.length_append, ih]; simp [telW]; omega
          simp only [List.length_append, List.length_singleton, h3]
          omega
      have h4 := this _ (Nat.le_refl _)
      have h5 := ho.n4
      omega
    split
    · simp only [List.length_append]; omega
    · simp only [List.length_append, List.length_nil]; omega
  have HALL : Hid (telTs s n ++ telM Q.K.mode s ++ s.prints = telX Q.K.mode s) := by
    show _ = _
    rw [← hn, telTs_all]; rfl
  have c1 := (HB.out _ _ h0).1
  have H0 : Hid (I (telTs s 0) w) := h0
  clear hE hs hth htb hT ho hlen hn h0
  go_enter Tryz.func55, Tryz.ntmps55
  go_wp2_with fail
  go_loopw [10] (fun i wr => ∃ j : Nat, j ≤ n ∧ i = .int .i64 j ∧ Hid (I (telTs s j) wr)) (fun i _ => n - (intOf i).toNat)
  case atStart => exact ⟨0, Nat.zero_le _, rfl, H0⟩
  case round =>
    obtain ⟨j, hj, rfl, HI⟩ := hrel
    clear H0 c1
    obtain ⟨c1, c0⟩ := HB.out _ _ HI.out
    by_cases hlt : j < n
    · have cp := HP.out _ _ j hlt HI.out
      have hpc := HPC.out j hlt
      have hl := HL.out j (by omega)
      obtain ⟨pc, epc⟩ : ∃ x, (thOf s j).pc = x := ⟨_, rfl⟩
      have HEP : Hid ((thOf s j).pc = pc) := epc
      rw [epc] at cp hpc
      have HC1 := Hid.out (p := Hid _) (HT.out _ wr (pc : Int) ⟨by omega, by omega⟩ (by omega) HI.out)
      clear epc HI
      go_wp2_with fail
      refine Calls.mono HC1.out ?_
      rintro e w1 ⟨rfl, h1, _⟩
      obtain ⟨c11, _⟩ := HB.out _ _ h1
      obtain ⟨a, c, cr, HC2⟩ := HR.out _ _ j hlt (by rw [List.length_append]; simp only [List.length_singleton]; omega) h1
      obtain ⟨rl, erl⟩ : ∃ x, (thOf s j).regs.length = x := ⟨_, rfl⟩
      rw [erl] at cr HC2
      clear HC1 h1 erl c1 cp
      go_wp2_with fail
      refine Calls.mono HC2.out ?_
      rintro e w2 ⟨rfl, h2⟩
      have H2 : Hid (I (telTs s (j + 1)) w2) := by
        show I _ _
        rw [telTs_succ, HEP.out]
        exact h2
      clear HC2 h2
      go_wp2_with fail
      go_roundw
      case rel => exact ⟨j + 1, by omega, by go_num, H2⟩
      case measure => simp [intOf]; omega
    · obtain rfl : j = n := by omega
      have hl := HL.out j (Nat.le_refl _)
      have HC1 := Hid.out (p := Hid _) (HM.out _ wr (by omega) HI.out)
      clear HI
      go_wp2_with fail
      refine Calls.mono HC1.out ?_
      rintro e w1 ⟨rfl, h1⟩
      obtain ⟨a, c, cp, HC2⟩ := HPR.out _ _ (by rw [List.length_append]; have := HML.out; omega) h1
      obtain ⟨pl, epl⟩ : ∃ x, s.prints.length = x := ⟨_, rfl⟩
      rw [epl] at cp HC2
      clear HC1 h1 epl
      go_wp2_with fail
      refine Calls.mono HC2.out ?_
      rintro e w2 ⟨rfl, h2⟩
      have H2 : Hid (I (telX Q.K.mode s) w2) := by
        show I _ _
        rw [← HALL.out]
        exact h2
      clear HC2 h2
      go_wp2_with fail
      go_end0
      exact ⟨rfl, H2.out⟩
end

section
open Go.RowKit

/-- A plain memory that has just been made, in the block mb. -/
structure Mem1 (w w' : World) (mb : Nat) (wv ov : Value) (words own : List Int) : Prop where
  box : w'.heap[mb]? = some (.cells #[wv, ov] 98 (0, 0))
  wrow : w'.ownsRow w.heap.size 3 1 wv words.length (intsV words)
  orow : w'.ownsRow w.heap.size 3 1 ov own.length (intsV own)
  lo : w.heap.size ≤ mb
  a1 : wv.ownBlock ≠ some mb
  a2 : ov.ownBlock ≠ some mb
  a3 : ∀ g, wv.ownBlock = some g → ov.ownBlock ≠ some g
  below : Below w.heap.size w w'
theorem cloneI_row (w : World) (B : Nat) (a : Option Addr) (c : Nat) (l : List Int) (hown : w.ownsRow B 3 1 (.slice a l.length c) l.length (intsV l)) (hn : l.length ≤ 1000000) :
    Calls Tryz.prog 36 #[.slice a l.length c] w fun e w' => ∃ a' c', e = .returned (.slice a' l.length c') ∧ w'.ownsRow w.heap.size 3 1 (.slice a' l.length c') l.length (intsV l) ∧ Below w.heap.size w w' :=
  (cloneI_any w B _ _ _ hown (intsV_one l) hn).mono fun e w' ⟨u, h1, h2, h3⟩ => by
    obtain ⟨a', c', rfl⟩ := fam_form h2
    exact ⟨a', c', h1, h2, h3⟩
set_option maxRecDepth 100000 in
set_option maxHeartbeats 3200000 in
theorem pcopy_any (w : World) (B : Nat) (Q : Cd) (sb mb : Nat) (v : Rp → Value) (s : Sx) (hs : QSt w B Q sb mb v s) (hm : s.words.length ≤ 64) (hl : s.own.length ≤ 4) :
    Calls Tryz.prog 161 #[.pointer (some ⟨mb, 0, none⟩)] w fun e w' => ∃ mb' wv ov, e = .returned (.pointer (some ⟨mb', 0, none⟩)) ∧ Mem1 w w' mb' wv ov s.words s.own := by
  obtain ⟨wa, wc, ew⟩ := hs.form .words
  change v .words = .slice wa s.words.length wc at ew
  obtain ⟨oa, oc, eo⟩ := hs.form .own
  change v .own = .slice oa s.own.length oc at eo
  have m0 := hs.m0
  rw [ew] at m0
  have m1 := hs.m1
  rw [eo] at m1
  have HC1 : Hid (∀ W, Below w.heap.size w W → Calls Tryz.prog 36 #[.slice wa s.words.length wc] W fun e w' => ∃ a' c', e = .returned (.slice a' s.words.length c') ∧ w'.ownsRow W.heap.size 3 1 (.slice a' s.words.length c') s.words.length (intsV s.words) ∧ Below W.heap.size W w') := fun W hb => by
    have h1 := (hs.below hb).fam.own .words
    rw [ew] at h1
    exact cloneI_row W B wa wc s.words h1 (by omega)
  have HC2 : Hid (∀ W, Below w.heap.size w W → Calls Tryz.prog 36 #[.slice oa s.own.length oc] W fun e w' => ∃ a' c', e = .returned (.slice a' s.own.length c') ∧ w'.ownsRow W.heap.size 3 1 (.slice a' s.own.length c') s.own.length (intsV s.own) ∧ Below W.heap.size W w') := fun W hb => by
    have h1 := (hs.below hb).fam.own .own
    rw [eo] at h1
    exact cloneI_row W B oa oc s.own h1 (by omega)
  have HFIN : Hid (∀ (W w3 w4 : World) (wv ov : Value), W.heap = w.heap → W.os = w.os → W.tape = w.tape → W.output = w.output → w3.ownsRow W.heap.size 3 1 wv s.words.length (intsV s.words) → Below W.heap.size W w3 → w4.ownsRow w3.heap.size 3 1 ov s.own.length (intsV s.own) → Below w3.heap.size w3 w4 → Mem1 w (w4.alloc (.cells #[wv, ov] 98)) w4.heap.size wv ov s.words s.own) := fun W w3 w4 wv ov e0 e1 e2 e3 h1 h2 h3 h4 => by
    have hz : W.heap.size = w.heap.size := by rw [e0]
    have hb : Below w.heap.size w w3 := ⟨h2.os.trans e1, h2.tape.trans e2, h2.output.trans e3, by have := h2.size; omega, fun k hk => (h2.block k (by omega)).trans (by rw [e0])⟩
    have hb4 : Below w.heap.size w w4 := hb.trans (h4.mono hb.size)
    rw [hz] at h1
    refine ⟨heap_alloc_new _ _, (fam_keeps h1 (fun g hg => h4.block g (h1.lt g hg).2)).alloc _, (own_low h3 hb.size).alloc _, hb4.size, fun e => ?_, fun e => ?_, fun g e1 e2 => ?_, hb4.alloc hb4.size _⟩
    · have := (h1.lt _ e).2
      have := h4.size
      omega
    · have := (h3.lt _ e).2; omega
    · have := (h1.lt _ e1).2
      have := (h3.lt _ e2).1
      omega
  obtain ⟨m, hmm⟩ : ∃ m, s.words.length = m := ⟨_, rfl⟩
  obtain ⟨k, hkk⟩ : ∃ m, s.own.length = m := ⟨_, rfl⟩
  rw [hmm] at m0 HC1 HFIN
  rw [hkk] at m1 HC2 HFIN
  clear hs ew eo hm hl hmm hkk
  go_enter Tryz.func161, Tryz.ntmps161
  go_wp2
  go_region_held3 (fun w' => w'.cell? ⟨mb, 0, none⟩ = some (.slice wa m wc) ∧ w'.cell? ⟨mb, 1, none⟩ = some (.slice oa k oc)) (refine ⟨?_, ?_⟩ <;> (repeat (first | assumption | refine cell_drw ?_ | refine cell_up ?_ _))) (first | (go_at_call 36; refine Calls.mono (HC1.out _ (by repeat (first | exact Below.refl _ _ | assumption | refine Below.drew ?_))) ?_; rintro e w3 ⟨a3, c3, rfl, ho3, hb3⟩; have z0 : w3.cell? ⟨mb, 0, none⟩ = some (.slice wa m wc) := (hb3.cell (p := ⟨mb, 0, none⟩) (lt_of_cell m0)).trans m0; have z1 : w3.cell? ⟨mb, 1, none⟩ = some (.slice oa k oc) := (hb3.cell (p := ⟨mb, 1, none⟩) (lt_of_cell m1)).trans m1; have hB3 : Below w.heap.size w w3 := ⟨hb3.os, hb3.tape, hb3.output, hb3.size, fun j hj => hb3.block j hj⟩) | (go_at_call 36; refine Calls.mono (HC2.out _ (by repeat (first | assumption | refine Below.drew ?_))) ?_; rintro e w4 ⟨a4, c4, rfl, ho4, hb4⟩; have y0 : w4.cell? ⟨mb, 0, none⟩ = some (.slice wa m wc) := (hb4.cell (p := ⟨mb, 0, none⟩) (lt_of_cell z0)).trans z0; have y1 : w4.cell? ⟨mb, 1, none⟩ = some (.slice oa k oc) := (hb4.cell (p := ⟨mb, 1, none⟩) (lt_of_cell z1)).trans z1))
  all_goals go_wp2
  all_goals go_ret
  all_goals exact ⟨_, _, _, rfl, HFIN.out w.drew w3 w4 _ _ rfl rfl rfl rfl ho3 hb3 ho4 hb4⟩
end

section
open Go.ChangeShapes Go.WideShapes Go.ChangeAt Go.RowKit Go.Joins Go.Deep

theorem Tryz.own : ownKnob Tryz.prog.godebug = none := by kernel_rfl
theorem Tryz.laidOut : laidOutB Tryz.prog = true := by kernel_rfl
theorem Tryz.readableP : Tryz.prog.readableRec 25 = true := by kernel_rfl
theorem Tryz.readableI : Tryz.prog.readableRec 23 = true := by kernel_rfl
end

end Go.Proofs.YtipdnfpomdcenacGreatDoor
