/-
  What the program tells of a state, in whichever memory.
  A memory with buffers that has just been made.
-/
import Derived.Test.YtefnmbnakphhfadGreatDoorWTell2
import Derived.Test.YtefnmbnakphhfadGreatDoorTelP
import Derived.Test.YtefnmbnakphhfadGreatDoorPNew
import Derived.Test.YtefnmbnakphhfadGreatDoorDSt
namespace Go.Proofs.YtefnmbnakphhfadGreatDoor
section
open Go.RowKit

/-- What must be known of a state that is told. -/
structure TOk (Q : Cd) (s : Sx) : Prop where
  nt : Q.nt = s.ths.length
  n0 : 0 < s.ths.length
  n4 : s.ths.length ≤ 4
  pc : ∀ t, t < s.ths.length → (thOf s t).pc ≤ 1000
  rg : ∀ t, t < s.ths.length → (thOf s t).regs.length ≤ 200
  wl : ∀ t, t < s.ths.length → (thOf s t).wait.length ≤ 3
  wk : ∀ t, t < s.ths.length → ∀ x, x ∈ (thOf s t).wait → 0 ≤ x.wh ∧ x.wh ≤ 64
  words : s.words.length ≤ 64
  own : s.own.length ≤ 4
  pr : s.prints.length ≤ 10000
  v : VOk s
/-- What a kind of memory tells. -/
structure MTell (K : Mk) (tf : Nat) : Prop where
  mTell : ∀ (a : Addr) (w : World), (method 325 K.tid (.pointer (some a)) "Tell").run Tryz.prog w = .ok (tf, .pointer (some a)) w
  cTell : ∀ (xs : Array Value) (w : World), (callFunc tf xs).run Tryz.prog w = .ok (.enter tf xs) w
  tell : ∀ (w : World) (fid : Nat) (caps : Array Value) (B : Nat) (Q : Cd) (sb mb : Nat) (v : Rp → Value) (s : Sx) (I : List Int → World → Prop) (xs : List Int), Q.K = K → Ear fid caps B Q sb mb v s I → TOk Q s → xs.length ≤ 10000 → I xs w →
    Calls Tryz.prog tf #[.pointer (some ⟨Q.top mb, 0, none⟩), .func (.func fid) #[] caps] w fun e w' => e = .returned (.tuple #[]) ∧ I (xs ++ telM K.mode s) w'
theorem plain_tell : MTell plainK 155 where
  mTell a w := by kernel_rfl
  cTell xs w := by kernel_rfl
  tell w fid caps B Q sb mb v s I xs hK hE ho hx h0 := by
    rw [plain_top hK]
    have h1 := ho.words
    have h2 := ho.own
    refine (ptell_any w fid caps B Q sb mb v s I hE xs ho.v.words ho.v.own (by omega) h0).mono fun e w' h => ⟨h.1, ?_⟩
    have e : telM plainK.mode s = s.words ++ s.own := by
      unfold telM
      rw [if_neg (by decide), List.append_nil]
    rw [e, ← List.append_assoc]
    exact h.2
theorem buf_tell : MTell bufK 143 where
  mTell a w := by kernel_rfl
  cTell xs w := by kernel_rfl
  tell w fid caps B Q sb mb v s I xs hK hE ho hx h0 := by
    rw [buf_top hK]
    have h1 := ho.words
    have h2 := ho.own
    refine (btell_any w fid caps B Q sb mb v s I hE hK ho.nt ho.n0 ho.n4 ho.wl ho.wk (fun t ht x hx => ho.v.wait _ (thOf_mem ht) x hx) xs ho.v.words ho.v.own (by omega) h0).mono fun e w' h => ⟨h.1, ?_⟩
    have e : telM bufK.mode s = s.words ++ s.own ++ s.ths.flatMap telB := by
      unfold telM
      rw [if_pos (by decide)]
    rw [e, ← List.append_assoc, ← List.append_assoc]
    exact h.2
/-- What is told of the first j threads. -/
def telTs (s : Sx) (j : Nat) : List Int := (List.range j).flatMap fun t => telT (thOf s t)
theorem telTs_all (s : Sx) : telTs s s.ths.length = s.ths.flatMap telT := by
  unfold telTs
  conv => rhs; rw [show s.ths = (List.range s.ths.length).map (thOf s) by
    refine List.ext_getElem? fun i => ?_
    rw [List.getElem?_map]
    by_cases h : i < s.ths.length
    · rw [List.getElem?_range h, List.getElem?_eq_getElem h]
      show _ = some (thOf s i)
      unfold thOf
      rw [List.getD_eq_getElem?_getD, List.getElem?_eq_getElem h]; rfl
    · rw [List.getElem?_eq_none (by omega), List.getElem?_eq_none (by simpa using h)]; rfl]
  rw [List.flatMap_map]
theorem telTs_succ (s : Sx) (j : Nat) : telTs s (j + 1) = telTs s j ++ [((thOf s j).pc : Int)] ++ (thOf s j).regs := by
  unfold telTs
  rw [List.range_succ, List.flatMap_append]
  simp [telT]

set_option maxRecDepth 100000 in
set_option maxHeartbeats 3200000 in
/-- What is told of a state. -/
theorem stell_any (w : World) (fid : Nat) (caps : Array Value) (B : Nat) (Q : Cd) (sb mb : Nat) (v : Rp → Value) (s : Sx) (I : List Int → World → Prop) (hE : Ear fid caps B Q sb mb v s I) (tf : Nat) (hT : MTell Q.K tf) (ho : TOk Q s) (h0 : I [] w) :
    Calls Tryz.prog 77 #[.pointer (some ⟨sb, 0, none⟩), .func (.func fid) #[] caps] w fun e w' => e = .returned (.tuple #[]) ∧ I (telX Q.K.mode s) w' := by
  have hs := hE.st _ _ h0
  obtain ⟨tb, tc, hth, htb, _⟩ := hs.blk .thr (by show 0 < s.ths.length; exact ho.n0)
  change v .thr = .slice (some ⟨tb, 0, none⟩) s.ths.length tc at hth
  have kF := hE.fn
  have mT := hT.mTell
  have kT := hT.cTell
  obtain ⟨n, hn⟩ : ∃ n, s.ths.length = n := ⟨_, rfl⟩
  have hn4 : n ≤ 4 := by rw [← hn]; exact ho.n4
  have hlen : ∀ j, j ≤ n → (telTs s j).length ≤ 201 * j := by
    intro j
    induction j with
    | zero => intro _; simp [telTs]
    | succ j ih =>
      intro hj
      rw [telTs_succ]
      have h1 := ih (by omega)
      have h2 := ho.rg j (by omega)
      simp only [List.length_append, List.length_singleton]
      omega
  have HB : Hid (∀ ys W, I ys W → W.cell? ⟨sb, 1, none⟩ = some (.slice (some ⟨tb, 0, none⟩) n tc) ∧ W.cell? ⟨sb, 0, none⟩ = some (.iface Q.K.tid (.pointer (some ⟨Q.top mb, 0, none⟩)))) := fun ys W h => by
    have hq := hE.st _ _ h
    have c1 := hq.c1
    rw [hth, hn] at c1
    exact ⟨c1, hq.c0⟩
  have HP : Hid (∀ ys W j, j < n → I ys W → W.cell? ⟨tb, j * 3 + 1, none⟩ = some (.int .i64 (thOf s j).pc)) := fun ys W j hj h => (hE.st _ _ h).pc htb (by omega)
  have HR : Hid (∀ ys W j, j < n → ys.length ≤ 10000 → I ys W → ∃ a c, W.cell? ⟨tb, j * 3 + 2, none⟩ = some (.slice a (thOf s j).regs.length c) ∧ Hid (Calls Tryz.prog 95 #[.slice a (thOf s j).regs.length c, .func (.func fid) #[] caps] W fun e w' => e = .returned (.tuple #[]) ∧ I (ys ++ (thOf s j).regs) w')) := fun ys W j hj hy h => by
    have hjs : j < s.ths.length := by omega
    obtain ⟨a, c, e, hc⟩ := hE.regs h j (fun x hx => ho.v.regs _ (thOf_mem hjs) x hx) (by have := ho.rg j hjs; omega)
    have := (hE.st _ _ h).regs htb hjs
    rw [e] at this
    exact ⟨a, c, this, hc⟩
  have HT : Hid (∀ ys W m, I64n m → ys.length ≤ 20000 → I ys W → Calls Tryz.prog fid (#[.int .i64 m] ++ caps) W fun e W' => e = .returned (.tuple #[]) ∧ I (ys ++ [m]) W' ∧ Txt W W') := hE.tell
  have HM : Hid (∀ ys W, ys.length ≤ 10000 → I ys W → Calls Tryz.prog tf #[.pointer (some ⟨Q.top mb, 0, none⟩), .func (.func fid) #[] caps] W fun e w' => e = .returned (.tuple #[]) ∧ I (ys ++ telM Q.K.mode s) w') := fun ys W hy h => hT.tell W fid caps B Q sb mb v s I ys rfl hE ho hy h
  have HPR : Hid (∀ ys W, ys.length ≤ 10000 → I ys W → ∃ a c, W.cell? ⟨sb, 2, none⟩ = some (.slice a s.prints.length c) ∧ Hid (Calls Tryz.prog 95 #[.slice a s.prints.length c, .func (.func fid) #[] caps] W fun e w' => e = .returned (.tuple #[]) ∧ I (ys ++ s.prints) w')) := fun ys W hy h => by
    obtain ⟨a, c, e, hc⟩ := hE.prints h ho.v.prints (by have := ho.pr; omega)
    have := (hE.st _ _ h).c2
    rw [e] at this
    exact ⟨a, c, this, hc⟩
  have HPC : Hid (∀ j, j < n → (thOf s j).pc ≤ 1000) := fun j hj => ho.pc j (by omega)
  have HL := Hid.out (p := Hid _) hlen
  have HML : Hid ((telM Q.K.mode s).length ≤ 200) := by
    show _ ≤ _
    unfold telM
    have h1 := ho.words
    have h2 := ho.own
    have h3 : (s.ths.flatMap telB).length ≤ 28 := by
      rw [← telBs_all]
      have : ∀ j, j ≤ s.ths.length → (telBs s j).length ≤ 7 * j := by
        intro j
        induction j with
        | zero => intro _; simp [telBs]
        | succ j ih =>
          intro hj
          rw [telBs_succ]
          have h1 := ih (by omega)
          have h2 := ho.wl j (by omega)
          have h3 : ((thOf s j).wait.flatMap telW).length = 2 * (thOf s j).wait.length := by
            generalize (thOf s j).wait = l
            induction l with
            | nil => rfl
            | cons a r ih => rw [List.flatMap_cons, List.length_append, ih]; simp [telW]; omega
          simp only [List.length_append, List.length_singleton, h3]
          omega
      have h4 := this _ (Nat.le_refl _)
      have h5 := ho.n4
      omega
    split
    · simp only [List.length_append]; omega
    · simp only [List.length_append, List.length_nil]; omega
  have HALL : Hid (telTs s n ++ telM Q.K.mode s ++ s.prints = telX Q.K.mode s) := by
    show _ = _
    rw [← hn, telTs_all]; rfl
  have c1 := (HB.out _ _ h0).1
  have H0 : Hid (I (telTs s 0) w) := h0
  clear hE hs hth htb hT ho hlen hn h0
  go_enter Tryz.func77, Tryz.ntmps77
  go_wp2_with fail
  go_loopw [10] (fun i wr => ∃ j : Nat, j ≤ n ∧ i = .int .i64 j ∧ Hid (I (telTs s j) wr)) (fun i _ => n - (intOf i).toNat)
  case atStart => exact ⟨0, Nat.zero_le _, rfl, H0⟩
  case round =>
    obtain ⟨j, hj, rfl, HI⟩ := hrel
    clear H0 c1
    obtain ⟨c1, c0⟩ := HB.out _ _ HI.out
    by_cases hlt : j < n
    · have cp := HP.out _ _ j hlt HI.out
      have hpc := HPC.out j hlt
      have hl := HL.out j (by omega)
      obtain ⟨pc, epc⟩ : ∃ x, (thOf s j).pc = x := ⟨_, rfl⟩
      have HEP : Hid ((thOf s j).pc = pc) := epc
      rw [epc] at cp hpc
      have HC1 := Hid.out (p := Hid _) (HT.out _ wr (pc : Int) ⟨by omega, by omega⟩ (by omega) HI.out)
      clear epc HI
      go_wp2_with fail
      refine Calls.mono HC1.out ?_
      rintro e w1 ⟨rfl, h1, _⟩
      obtain ⟨c11, _⟩ := HB.out _ _ h1
      obtain ⟨a, c, cr, HC2⟩ := HR.out _ _ j hlt (by rw [List.length_append]; simp only [List.length_singleton]; omega) h1
      obtain ⟨rl, erl⟩ : ∃ x, (thOf s j).regs.length = x := ⟨_, rfl⟩
      rw [erl] at cr HC2
      clear HC1 h1 erl c1 cp
      go_wp2_with fail
      refine Calls.mono HC2.out ?_
      rintro e w2 ⟨rfl, h2⟩
      have H2 : Hid (I (telTs s (j + 1)) w2) := by
        show I _ _
        rw [telTs_succ, HEP.out]
        exact h2
      clear HC2 h2
      go_wp2_with fail
      go_roundw
      case rel => exact ⟨j + 1, by omega, by go_num, H2⟩
      case measure => simp [intOf]; omega
    · obtain rfl : j = n := by omega
      have hl := HL.out j (Nat.le_refl _)
      have HC1 := Hid.out (p := Hid _) (HM.out _ wr (by omega) HI.out)
      clear HI
      go_wp2_with fail
      refine Calls.mono HC1.out ?_
      rintro e w1 ⟨rfl, h1⟩
      obtain ⟨a, c, cp, HC2⟩ := HPR.out _ _ (by rw [List.length_append]; have := HML.out; omega) h1
      obtain ⟨pl, epl⟩ : ∃ x, s.prints.length = x := ⟨_, rfl⟩
      rw [epl] at cp HC2
      clear HC1 h1 epl
      go_wp2_with fail
      refine Calls.mono HC2.out ?_
      rintro e w2 ⟨rfl, h2⟩
      have H2 : Hid (I (telX Q.K.mode s) w2) := by
        show I _ _
        rw [← HALL.out]
        exact h2
      clear HC2 h2
      go_wp2_with fail
      go_end0
      exact ⟨rfl, H2.out⟩
end

section
open Go.RowKit

theorem made_nils (n : Nat) : madeCells #[nilV] n = (List.replicate n nilV).toArray := by
  apply Array.ext'
  simp [madeCells]
  apply List.ext_getElem?
  intro i
  simp only [List.getElem?_map, List.getElem?_replicate]
  by_cases h : i < n
  · simp [h, Nat.mod_one]
  · simp [h]
theorem nils_row {w : World} {B g k : Nat} {ty : TypeId} (hB : B ≤ g) (hk : k ≤ 1000) (h : w.heap[g]? = some (.cells (madeCells #[nilV] k) ty (0, 0))) : w.ownsRow B ty 1 (.slice (some ⟨g, 0, none⟩) k k) k (List.replicate k nilV) := by
  rw [made_nils] at h
  refine ⟨by simp, Or.inr ⟨g, k, _, rfl, hB, h, Nat.le_refl _, by unfold maxLen; omega, by simp, ?_⟩⟩
  rw [List.take_of_length_le (by simp)]
theorem Mem0.low {w W0 w3 W : World} {mb lk : Nat} {wv ov : Value} {words : List Int} (h : Mem0 W0 w3 mb wv ov words lk) (h0 : Below w.heap.size w W0) (h3 : Below w3.heap.size w3 W) : Mem0 w W mb wv ov words lk := by
  have hl : mb < w3.heap.size := by
    rcases Nat.lt_or_ge mb w3.heap.size with h1 | h1
    · exact h1
    · have := h.box; rw [Array.getElem?_eq_none h1] at this; cases this
  exact ⟨(h3.block _ hl).trans h.box, fam_keeps (own_low h.wrow h0.size) (fun g e => h3.block g (h.wrow.lt g e).2), fam_keeps (own_low h.orow h0.size) (fun g e => h3.block g (h.orow.lt g e).2), Nat.le_trans h0.size h.lo, h.a1, h.a2, h.a3, (h0.trans (h.below.mono h0.size)).trans (h3.mono (Nat.le_trans h0.size h.below.size))⟩
/-- The rows of a memory with buffers that has just been made. -/
def b0V (mb bb g n : Nat) (wv ov : Value) : Rp → Value
  | .mem => boxV mb
  | .words => wv
  | .own => ov
  | .box => boxV bb
  | .bufs => .slice (some ⟨g, 0, none⟩) n n
  | _ => nilV
theorem Mem0.b {w W : World} {mb lk g n : Nat} {wv ov : Value} {words : List Int} (h : Mem0 w W mb wv ov words lk) (hn : n ≤ 4) (hg : W.heap[g]? = some (.cells (madeCells #[nilV] n) 207 (0, 0))) (hgl : w.heap.size ≤ g) (A : Nat → Option Addr) (L C : Nat → Nat) :
    MemQ ⟨A, L, C, bufK, W.heap.size, n⟩ w (W.alloc (.cells #[.pointer (some ⟨mb, 0, none⟩), .slice (some ⟨g, 0, none⟩) n n] 101)) mb (b0V mb W.heap.size g n wv ov) words lk := by
  have lt : ∀ k o, W.heap[k]? = some o → k < W.heap.size := fun k o hk => by
    rcases Nat.lt_or_ge k W.heap.size with h1 | h1
    · exact h1
    · rw [Array.getElem?_eq_none h1] at hk; cases hk
  have lm := lt _ _ h.box
  have lg := lt _ _ hg
  have c1 : g ≠ mb := fun e => by rw [e, h.box] at hg; simp at hg
  have c2 := own_type h.wrow hg (by decide)
  have c3 := own_type h.orow hg (by decide)
  have c4 : wv.ownBlock ≠ some W.heap.size := fun e => absurd (h.wrow.lt _ e).2 (by omega)
  have c5 : ov.ownBlock ≠ some W.heap.size := fun e => absurd (h.orow.lt _ e).2 (by omega)
  refine ⟨fun r hr => ?_, fun r q k hr hq => ?_, rfl, rfl, rfl, fun _ => rfl, rfl, fun _ => rfl, h.below.alloc h.below.size _⟩
  · cases r with
    | st => exact absurd rfl hr
    | mem => exact (fam_box (xs := [wv, ov]) h.lo h.box).alloc _
    | words => exact h.wrow.alloc _
    | own =>
      show World.ownsRow _ _ _ 1 ov (List.replicate lk (-1 : Int)).length _
      rw [List.length_replicate]
      exact h.orow.alloc _
    | thr => exact World.ownsRow_nil _ _ _ _
    | prints => exact World.ownsRow_nil _ _ _ _
    | regs t => exact World.ownsRow_nil _ _ _ _
    | box => exact fam_box (xs := [.pointer (some ⟨mb, 0, none⟩), .slice (some ⟨g, 0, none⟩) n n]) h.below.size (heap_alloc_new _ _)
    | bufs =>
      have e : pX ⟨A, L, C, bufK, W.heap.size, n⟩ mb (b0V mb W.heap.size g n wv ov) (sB words lk) .bufs = List.replicate n nilV := by
        show (List.range n).map (fun _ => nilV) = _
        exact List.eq_replicate_iff.2 ⟨by rw [List.length_map, List.length_range], fun b hb => by obtain ⟨_, _, e⟩ := List.mem_map.1 hb; exact e.symm⟩
      rw [e]
      exact (nils_row hgl (by omega) hg).alloc _
    | buf t => exact World.ownsRow_nil _ _ _ _
  · have s1 : ∀ b k, (boxV b).ownBlock = some k → k = b := fun b k e => by simpa [Value.ownBlock] using e.symm
    have s2 : ∀ b k, (Value.slice (some ⟨b, 0, none⟩) n n).ownBlock = some k → k = b := fun b k e => by simpa [Value.ownBlock] using e.symm
    have s3 : ∀ k, (nilV).ownBlock = some k → False := fun k e => by simp [Value.ownBlock] at e
    have a1 := h.a1
    have a2 := h.a2
    have a3 := h.a3
    have key : ∀ r k, (b0V mb W.heap.size g n wv ov r).ownBlock = some k → (r = .mem ∧ k = mb) ∨ (r = .words ∧ wv.ownBlock = some k) ∨ (r = .own ∧ ov.ownBlock = some k) ∨ (r = .box ∧ k = W.heap.size) ∨ (r = .bufs ∧ k = g) := fun r k e => by
      cases r with
      | mem => exact .inl ⟨rfl, s1 _ _ e⟩
      | words => exact .inr (.inl ⟨rfl, e⟩)
      | own => exact .inr (.inr (.inl ⟨rfl, e⟩))
      | box => exact .inr (.inr (.inr (.inl ⟨rfl, s1 _ _ e⟩)))
      | bufs => exact .inr (.inr (.inr (.inr ⟨rfl, s2 _ _ e⟩)))
      | st => exact (s3 _ e).elim
      | thr => exact (s3 _ e).elim
      | prints => exact (s3 _ e).elim
      | regs t => exact (s3 _ e).elim
      | buf t => exact (s3 _ e).elim
    rcases key r k hr with ⟨rfl, e1⟩ | ⟨rfl, e1⟩ | ⟨rfl, e1⟩ | ⟨rfl, e1⟩ | ⟨rfl, e1⟩ <;> rcases key q k hq with ⟨rfl, e2⟩ | ⟨rfl, e2⟩ | ⟨rfl, e2⟩ | ⟨rfl, e2⟩ | ⟨rfl, e2⟩ <;> first | rfl | (exfalso; omega) | (exfalso; subst e1; exact absurd e2 (by assumption)) | (exfalso; subst e2; exact absurd e1 (by assumption)) | (exact absurd e2 (a3 _ e1)) | (exact absurd e1 (a3 _ e2))

set_option maxRecDepth 100000 in
set_option maxHeartbeats 3200000 in
theorem newBuffered_any (w : World) (ca : Option Addr) (n cc : Nat) (wa : Option Addr) (wc lk rg : Nat) (words : List Int) (hw : SIs w wa words) (hnil : wa = none → words = [] ∧ wc = 0) (hm : words.length ≤ 64) (hlk : lk ≤ 4) (hn : n ≤ 4) :
    Calls Tryz.prog 32 #[prgV ca n cc wa words.length wc lk rg] w fun e w' => ∃ bb mb v, e = .returned (.pointer (some ⟨bb, 0, none⟩)) ∧ ∀ A L C, MemQ ⟨A, L, C, bufK, bb, n⟩ w w' mb v words lk := by
  have HNEW : Hid (∀ W, Below w.heap.size w W → Calls Tryz.prog 38 #[prgV ca n cc wa words.length wc lk rg] W fun e w' => ∃ mb wv ov, e = .returned (.pointer (some ⟨mb, 0, none⟩)) ∧ Mem0 W w' mb wv ov words lk) := fun W hb => newPlain_any W ca n cc wa wc lk rg words (hw.below hb) hnil hm hlk
  have hmk := fun W => run_make_row' (P := Tryz.prog) 99 207 nilV 24 Tryz.underlying99 (by kernel_rfl) rfl .i64 .i64 n (by omega) (by omega) W
  obtain ⟨m, hmm⟩ : ∃ m, words.length = m := ⟨_, rfl⟩
  rw [hmm] at HNEW ⊢
  clear hw hnil hm hmm
  have HN4 : Hid (n ≤ 4) := hn
  clear hn hlk
  go_enter Tryz.func32, Tryz.ntmps32
  go_wp2
  have q0 : (w.alloc (.cells #[.slice ca n cc, .slice wa m wc, .int .i64 (lk : Int), .int .i64 (rg : Int)] 25)).cell? ⟨w.heap.size, 0, none⟩ = some (.slice ca n cc) := by go_simp
  have q1 : (w.alloc (.cells #[.slice ca n cc, .slice wa m wc, .int .i64 (lk : Int), .int .i64 (rg : Int)] 25)).cell? ⟨w.heap.size, 1, none⟩ = some (.slice wa m wc) := by go_simp
  have q2 : (w.alloc (.cells #[.slice ca n cc, .slice wa m wc, .int .i64 (lk : Int), .int .i64 (rg : Int)] 25)).cell? ⟨w.heap.size, 2, none⟩ = some (.int .i64 (lk : Int)) := by go_simp
  have q3 : (w.alloc (.cells #[.slice ca n cc, .slice wa m wc, .int .i64 (lk : Int), .int .i64 (rg : Int)] 25)).cell? ⟨w.heap.size, 3, none⟩ = some (.int .i64 (rg : Int)) := by go_simp
  have HB1 : Hid (Below w.heap.size w (w.alloc (.cells #[.slice ca n cc, .slice wa m wc, .int .i64 (lk : Int), .int .i64 (rg : Int)] 25))) := (Below.refl _ _).alloc (Nat.le_refl _) _
  have hs1 : (w.alloc (.cells #[.slice ca n cc, .slice wa m wc, .int .i64 (lk : Int), .int .i64 (rg : Int)] 25)).heap.size = w.heap.size + 1 := by simp
  obtain ⟨W1, hW1⟩ : ∃ W1, w.alloc (.cells #[.slice ca n cc, .slice wa m wc, .int .i64 (lk : Int), .int .i64 (rg : Int)] 25) = W1 := ⟨_, rfl⟩
  rw [hW1] at q0 q1 q2 q3 HB1 hs1 ⊢
  clear hW1
  go_region_held3 (fun w' => w'.cell? ⟨w.heap.size, 0, none⟩ = some (.slice ca n cc) ∧ w'.cell? ⟨w.heap.size, 1, none⟩ = some (.slice wa m wc) ∧ w'.cell? ⟨w.heap.size, 2, none⟩ = some (.int .i64 (lk : Int)) ∧ w'.cell? ⟨w.heap.size, 3, none⟩ = some (.int .i64 (rg : Int))) (refine ⟨?_, ?_, ?_, ?_⟩ <;> (repeat (first | with_reducible assumption | with_reducible refine cell_drw ?_ | with_reducible refine cell_up ?_ _))) ((go_at_call 38; refine Calls.mono (HNEW.out _ (by repeat (first | exact HB1.out | refine Below.drew ?_ | refine Below.alloc ?_ (by have := HB1.out.size; simp; omega) _))) ?_; rintro e w3 ⟨mb, wv, ov, rfl, hm⟩; have z0 : w3.cell? ⟨w.heap.size, 0, none⟩ = some (.slice ca n cc) := (hm.below.cell (p := ⟨w.heap.size, 0, none⟩) (by show w.heap.size < _; simp; omega)).trans (by repeat (first | exact q0 | refine cell_drw ?_ | refine cell_up ?_ _)); have z1 : w3.cell? ⟨w.heap.size, 1, none⟩ = some (.slice wa m wc) := (hm.below.cell (p := ⟨w.heap.size, 1, none⟩) (by show w.heap.size < _; simp; omega)).trans (by repeat (first | exact q1 | refine cell_drw ?_ | refine cell_up ?_ _)); have z2 : w3.cell? ⟨w.heap.size, 2, none⟩ = some (.int .i64 (lk : Int)) := (hm.below.cell (p := ⟨w.heap.size, 2, none⟩) (by show w.heap.size < _; simp; omega)).trans (by repeat (first | exact q2 | refine cell_drw ?_ | refine cell_up ?_ _)); have z3 : w3.cell? ⟨w.heap.size, 3, none⟩ = some (.int .i64 (rg : Int)) := (hm.below.cell (p := ⟨w.heap.size, 3, none⟩) (by show w.heap.size < _; simp; omega)).trans (by repeat (first | exact q3 | refine cell_drw ?_ | refine cell_up ?_ _)); have HM := Hid.out (p := Hid _) hm; clear hm))
  all_goals go_wp2
  all_goals go_ret
  · refine ⟨w3.heap.size + 1, mb, b0V mb (w3.heap.size + 1) w3.heap.size n wv ov, rfl, fun A L C => ?_⟩
    have h := (HM.out.low HB1.out.drew ((Below.refl _ _).alloc (Nat.le_refl _) (.cells (madeCells #[nilV] n) 207))).b HN4.out (heap_alloc_new _ _) (Nat.le_trans HB1.out.drew.size HM.out.below.size) A L C
    rw [World.size_alloc] at h
    exact h
  · refine ⟨w3.heap.size, mb, b0V mb w3.heap.size (w.heap.size + 1) n wv ov, rfl, fun A L C => ?_⟩
    have hg : (W1.alloc (.cells (madeCells #[nilV] n) 207)).heap[w.heap.size + 1]? = some (.cells (madeCells #[nilV] n) 207 (0, 0)) := by
      have := heap_alloc_new W1 (.cells (madeCells #[nilV] n) 207)
      rwa [hs1] at this
    exact (HM.out.low (HB1.out.alloc HB1.out.size _).drew (Below.refl _ _)).b HN4.out ((HM.out.below.block _ (by simp [hs1])).trans hg) (Nat.le_succ _) A L C
end

end Go.Proofs.YtefnmbnakphhfadGreatDoor
