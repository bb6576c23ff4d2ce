/-
  What the program tells of a state, in whichever memory.
  A state's text, as the program writes it.
-/
import Derived.Test.YtgofbkgfonlceacGreatDoorWTell2
import Derived.Test.YtgofbkgfonlceacGreatDoorShelf
import Derived.Lib.OthersKept
import Derived.Lib.AppendIntMem
namespace Go.Proofs.YtgofbkgfonlceacGreatDoor
section
open Go.RowKit

/-- What must be known of a state that is told. -/
structure TOk (Q : Cd) (s : Sx) : Prop where
  nt : Q.nt = s.ths.length
  n0 : 0 < s.ths.length
  n4 : s.ths.length ≤ 4
  pc : ∀ t, t < s.ths.length → (thOf s t).pc ≤ 400
  rg : ∀ t, t < s.ths.length → (thOf s t).regs.length ≤ 200
  wl : ∀ t, t < s.ths.length → (thOf s t).wait.length ≤ 3
  wk : ∀ t, t < s.ths.length → ∀ x, x ∈ (thOf s t).wait → 0 ≤ x.wh ∧ x.wh ≤ 64
  words : s.words.length ≤ 64
  own : s.own.length ≤ 4
  pr : s.prints.length ≤ 10000
  v : VOk s
/-- What a kind of memory tells. -/
structure MTell (K : Mk) (tf : Nat) : Prop where
  mTell : ∀ (a : Addr) (w : World), (method 379 K.tid (.pointer (some a)) "Tell").run Tryz.prog w = .ok (tf, .pointer (some a)) w
  cTell : ∀ (xs : Array Value) (w : World), (callFunc tf xs).run Tryz.prog w = .ok (.enter tf xs) w
  tell : ∀ (w : World) (fid : Nat) (caps : Array Value) (B : Nat) (Q : Cd) (sb mb : Nat) (v : Rp → Value) (s : Sx) (I : List Int → World → Prop) (xs : List Int), Q.K = K → Ear fid caps B Q sb mb v s I → TOk Q s → xs.length ≤ 10000 → I xs w →
    Calls Tryz.prog tf #[.pointer (some ⟨Q.top mb, 0, none⟩), .func (.func fid) #[] caps] w fun e w' => e = .returned (.tuple #[]) ∧ I (xs ++ telM K.mode s) w'
theorem plain_tell : MTell plainK 185 where
  mTell a w := by kernel_rfl
  cTell xs w := by kernel_rfl
  tell w fid caps B Q sb mb v s I xs hK hE ho hx h0 := by
    rw [plain_top hK]
    have h1 := ho.words
    have h2 := ho.own
    refine (ptell_any w fid caps B Q sb mb v s I hE xs ho.v.words ho.v.own (by omega) h0).mono fun e w' h => ⟨h.1, ?_⟩
    have e : telM plainK.mode s = s.words ++ s.own := by
      unfold telM
      rw [if_neg (by decide), List.append_nil]
    rw [e, ← List.append_assoc]
    exact h.2
theorem buf_tell : MTell bufK 196 where
  mTell a w := by kernel_rfl
  cTell xs w := by kernel_rfl
  tell w fid caps B Q sb mb v s I xs hK hE ho hx h0 := by
    rw [buf_top hK]
    have h1 := ho.words
    have h2 := ho.own
    refine (btell_any w fid caps B Q sb mb v s I hE hK ho.nt ho.n0 ho.n4 ho.wl ho.wk (fun t ht x hx => ho.v.wait _ (thOf_mem ht) x hx) xs ho.v.words ho.v.own (by omega) h0).mono fun e w' h => ⟨h.1, ?_⟩
    have e : telM bufK.mode s = s.words ++ s.own ++ s.ths.flatMap telB := by
      unfold telM
      rw [if_pos (by decide)]
    rw [e, ← List.append_assoc, ← List.append_assoc]
    exact h.2
/-- What is told of the first j threads. -/
def telTs (s : Sx) (j : Nat) : List Int := (List.range j).flatMap fun t => telT (thOf s t)
theorem telTs_all (s : Sx) : telTs s s.ths.length = s.ths.flatMap telT := by
  unfold telTs
  conv => rhs; rw [show s.ths = (List.range s.ths.length).map (thOf s) by
    refine List.ext_getElem? fun i => ?_
    rw [List.getElem?_map]
    by_cases h : i < s.ths.length
    · rw [List.getElem?_range h, List.getElem?_eq_getElem h]
      show _ = some (thOf s i)
      unfold thOf
      rw [List.getD_eq_getElem?_getD, List.getElem?_eq_getElem h]; rfl
    · rw [List.getElem?_eq_none (by omega), List.getElem?_eq_none (by simpa using h)]; rfl]
  rw [List.flatMap_map]
theorem telTs_succ (s : Sx) (j : Nat) : telTs s (j + 1) = telTs s j ++ [((thOf s j).pc : Int)] ++ (thOf s j).regs := by
  unfold telTs
  rw [List.range_succ, List.flatMap_append]
  simp [telT]

set_option maxRecDepth 100000 in
set_option maxHeartbeats 3200000 in
/-- What is told of a state. -/
theorem stell_any (w : World) (fid : Nat) (caps : Array Value) (B : Nat) (Q : Cd) (sb mb : Nat) (v : Rp → Value) (s : Sx) (I : List Int → World → Prop) (hE : Ear fid caps B Q sb mb v s I) (tf : Nat) (hT : MTell Q.K tf) (ho : TOk Q s) (h0 : I [] w) :
    Calls Tryz.prog 78 #[.pointer (some ⟨sb, 0, none⟩), .func (.func fid) #[] caps] w fun e w' => e = .returned (.tuple #[]) ∧ I (telX Q.K.mode s) w' := by
  have hs := hE.st _ _ h0
  obtain ⟨tb, tc, hth, htb, _⟩ := hs.blk .thr (by show 0 < s.ths.length; exact ho.n0)
  change v .thr = .slice (some ⟨tb, 0, none⟩) s.ths.length tc at hth
  have kF := hE.fn
  have mT := hT.mTell
  have kT := hT.cTell
  obtain ⟨n, hn⟩ : ∃ n, s.ths.length = n := ⟨_, rfl⟩
  have hn4 : n ≤ 4 := by rw [← hn]; exact ho.n4
  have hlen : ∀ j, j ≤ n → (telTs s j).length ≤ 201 * j := by
    intro j
    induction j with
    | zero => intro _; simp [telTs]
    | succ j ih =>
      intro hj
      rw [telTs_succ]
      have h1 := ih (by omega)
      have h2 := ho.rg j (by omega)
      simp only [List.length_append, List.length_singleton]
      omega
  have HB : Hid (∀ ys W, I ys W → W.cell? ⟨sb, 1, none⟩ = some (.slice (some ⟨tb, 0, none⟩) n tc) ∧ W.cell? ⟨sb, 0, none⟩ = some (.iface Q.K.tid (.pointer (some ⟨Q.top mb, 0, none⟩)))) := fun ys W h => by
    have hq := hE.st _ _ h
    have c1 := hq.c1
    rw [hth, hn] at c1
    exact ⟨c1, hq.c0⟩
  have HP : Hid (∀ ys W j, j < n → I ys W → W.cell? ⟨tb, j * 3 + 1, none⟩ = some (.int .i64 (thOf s j).pc)) := fun ys W j hj h => (hE.st _ _ h).pc htb (by omega)
  have HR : Hid (∀ ys W j, j < n → ys.length ≤ 10000 → I ys W → ∃ a c, W.cell? ⟨tb, j * 3 + 2, none⟩ = some (.slice a (thOf s j).regs.length c) ∧ Hid (Calls Tryz.prog 108 #[.slice a (thOf s j).regs.length c, .func (.func fid) #[] caps] W fun e w' => e = .returned (.tuple #[]) ∧ I (ys ++ (thOf s j).regs) w')) := fun ys W j hj hy h => by
    have hjs : j < s.ths.length := by omega
    obtain ⟨a, c, e, hc⟩ := hE.regs h j (fun x hx => ho.v.regs _ (thOf_mem hjs) x hx) (by have := ho.rg j hjs; omega)
    have := (hE.st _ _ h).regs htb hjs
    rw [e] at this
    exact ⟨a, c, this, hc⟩
  have HT : Hid (∀ ys W m, I64n m → ys.length ≤ 20000 → I ys W → Calls Tryz.prog fid (#[.int .i64 m] ++ caps) W fun e W' => e = .returned (.tuple #[]) ∧ I (ys ++ [m]) W' ∧ Txt W W') := hE.tell
  have HM : Hid (∀ ys W, ys.length ≤ 10000 → I ys W → Calls Tryz.prog tf #[.pointer (some ⟨Q.top mb, 0, none⟩), .func (.func fid) #[] caps] W fun e w' => e = .returned (.tuple #[]) ∧ I (ys ++ telM Q.K.mode s) w') := fun ys W hy h => hT.tell W fid caps B Q sb mb v s I ys rfl hE ho hy h
  have HPR : Hid (∀ ys W, ys.length ≤ 10000 → I ys W → ∃ a c, W.cell? ⟨sb, 2, none⟩ = some (.slice a s.prints.length c) ∧ Hid (Calls Tryz.prog 108 #[.slice a s.prints.length c, .func (.func fid) #[] caps] W fun e w' => e = .returned (.tuple #[]) ∧ I (ys ++ s.prints) w')) := fun ys W hy h => by
    obtain ⟨a, c, e, hc⟩ := hE.prints h ho.v.prints (by have := ho.pr; omega)
    have := (hE.st _ _ h).c2
    rw [e] at this
    exact ⟨a, c, this, hc⟩
  have HPC : Hid (∀ j, j < n → (thOf s j).pc ≤ 400) := fun j hj => ho.pc j (by omega)
  have HL := Hid.out (p := Hid _) hlen
  have HML : Hid ((telM Q.K.mode s).length ≤ 200) := by
    show _ ≤ _
    unfold telM
    have h1 := ho.words
    have h2 := ho.own
    have h3 : (s.ths.flatMap telB).length ≤ 28 := by
      rw [← telBs_all]
      have : ∀ j, j ≤ s.ths.length → (telBs s j).length ≤ 7 * j := by
        intro j
        induction j with
        | zero => intro _; simp [telBs]
        | succ j ih =>
          intro hj
          rw [telBs_succ]
          have h1 := ih (by omega)
          have h2 := ho.wl j (by omega)
          have h3 : ((thOf s j).wait.flatMap telW).length = 2 * (thOf s j).wait.length := by
            generalize (thOf s j).wait = l
            induction l with
            | nil => rfl
            | cons a r ih => rw [List.flatMap_cons, List.length_append, ih]; simp [telW]; omega
          simp only [List.length_append, List.length_singleton, h3]
          omega
      have h4 := this _ (Nat.le_refl _)
      have h5 := ho.n4
      omega
    split
    · simp only [List.length_append]; omega
    · simp only [List.length_append, List.length_nil]; omega
  have HALL : Hid (telTs s n ++ telM Q.K.mode s ++ s.prints = telX Q.K.mode s) := by
    show _ = _
    rw [← hn, telTs_all]; rfl
  have c1 := (HB.out _ _ h0).1
  have H0 : Hid (I (telTs s 0) w) := h0
  clear hE hs hth htb hT ho hlen hn h0
  go_enter Tryz.func78, Tryz.ntmps78
  go_wp2_with fail
  go_loopw [10] (fun i wr => ∃ j : Nat, j ≤ n ∧ i = .int .i64 j ∧ Hid (I (telTs s j) wr)) (fun i _ => n - (intOf i).toNat)
  case atStart => exact ⟨0, Nat.zero_le _, rfl, H0⟩
  case round =>
    obtain ⟨j, hj, rfl, HI⟩ := hrel
    clear H0 c1
    obtain ⟨c1, c0⟩ := HB.out _ _ HI.out
    by_cases hlt : j < n
    · have cp := HP.out _ _ j hlt HI.out
      have hpc := HPC.out j hlt
      have hl := HL.out j (by omega)
      obtain ⟨pc, epc⟩ : ∃ x, (thOf s j).pc = x := ⟨_, rfl⟩
      have HEP : Hid ((thOf s j).pc = pc) := epc
      rw [epc] at cp hpc
      have HC1 := Hid.out (p := Hid _) (HT.out _ wr (pc : Int) ⟨by omega, by omega⟩ (by omega) HI.out)
      clear epc HI
      go_wp2_with fail
      refine Calls.mono HC1.out ?_
      rintro e w1 ⟨rfl, h1, _⟩
      obtain ⟨c11, _⟩ := HB.out _ _ h1
      obtain ⟨a, c, cr, HC2⟩ := HR.out _ _ j hlt (by rw [List.length_append]; simp only [List.length_singleton]; omega) h1
      obtain ⟨rl, erl⟩ : ∃ x, (thOf s j).regs.length = x := ⟨_, rfl⟩
      rw [erl] at cr HC2
      clear HC1 h1 erl c1 cp
      go_wp2_with fail
      refine Calls.mono HC2.out ?_
      rintro e w2 ⟨rfl, h2⟩
      have H2 : Hid (I (telTs s (j + 1)) w2) := by
        show I _ _
        rw [telTs_succ, HEP.out]
        exact h2
      clear HC2 h2
      go_wp2_with fail
      go_roundw
      case rel => exact ⟨j + 1, by omega, by go_num, H2⟩
      case measure => simp [intOf]; omega
    · obtain rfl : j = n := by omega
      have hl := HL.out j (Nat.le_refl _)
      have HC1 := Hid.out (p := Hid _) (HM.out _ wr (by omega) HI.out)
      clear HI
      go_wp2_with fail
      refine Calls.mono HC1.out ?_
      rintro e w1 ⟨rfl, h1⟩
      obtain ⟨a, c, cp, HC2⟩ := HPR.out _ _ (by rw [List.length_append]; have := HML.out; omega) h1
      obtain ⟨pl, epl⟩ : ∃ x, s.prints.length = x := ⟨_, rfl⟩
      rw [epl] at cp HC2
      clear HC1 h1 epl
      go_wp2_with fail
      refine Calls.mono HC2.out ?_
      rintro e w2 ⟨rfl, h2⟩
      have H2 : Hid (I (telX Q.K.mode s) w2) := by
        show I _ _
        rw [← HALL.out]
        exact h2
      clear HC2 h2
      go_wp2_with fail
      go_end0
      exact ⟨rfl, H2.out⟩
end

section
open Go.RowKit

theorem infoU8 : (Tryz.prog.info? 5).map (fun i => (i.zero, i.size, i.bytes)) = some (some (.int .u8 0), 1, 1) := by kernel_rfl
/-- The table of powers of ten. -/
abbrev TabB (B : Nat) (w : World) : Prop := Lib.TabBelow Tryz.prog B w "internal/strconv.uint64pow10" .u64 Lib.pow10Tab
/-- A box tb with bytes. -/
structure TxR (W : World) (B tb : Nat) (bs : List UInt8) : Prop where
  ex : ∃ v, W.heap[tb]? = some (.cells #[v] 110) ∧ W.ownsRow B 5 1 v bs.length (Lib.byteCells bs)
section
variable {W W' W'' : World}
theorem Txt.refl (W : World) : Txt W W := fun _ _ _ _ _ h => h
theorem Txt.trans (h : Txt W W') (k : Txt W' W'') : Txt W W'' := fun i c t h1 h2 h3 => k i c t h1 h2 (h i c t h1 h2 h3)
theorem Txt.below (h : Below W.heap.size W W') : Txt W W' := fun i c t _ _ h3 => by
  rw [h.block i (box_lt h3)]; exact h3
theorem Txt.kept (h : Lib.OthersKept 5 none W W') : Txt W W' := fun i c t h1 _ h3 => h i _ h3 (by simp) (fun c' fz e => h1 (by injection e))
theorem Txt.set {tb : Nat} {v u : Value} (h : W.heap[tb]? = some (.cells #[v] 110)) : Txt W (W.setCell ⟨tb, 0, none⟩ u) := fun i c t _ h2 h3 => by
  rw [Below.heap_setCell _ _ _ _ (fun e => h2 (by rw [show i = tb from e, h] at h3; injection (Option.some.inj h3) with _ e2; exact e2.symm))]
  exact h3
theorem Txt.grown {B : Nat} {v : Value} {n : Nat} {xs : List Value} (ho : W.ownsRow B 5 1 v n xs) (h : W.grownBy W' v.ownBlock) : Txt W W' := fun i c t h1 _ h3 => by
  rw [h.block i (box_lt h3) (fun e => own_type ho h3 (fun e' => h1 e'.symm) e.symm)]
  exact h3
/-- Nothing has turned but bytes, and the box tb. -/
abbrev K8 (tb : Option Nat) (W W' : World) : Prop := Lib.OthersKept 5 tb W W'
theorem k8_below {tb : Option Nat} (h : Below W.heap.size W W') : K8 tb W W' := fun k o h1 _ _ => by rw [h.block k (box_lt h1)]; exact h1
theorem k8_grown {tb : Option Nat} {B : Nat} {v : Value} {n : Nat} {xs : List Value} (ho : W.ownsRow B 5 1 v n xs) (h : W.grownBy W' v.ownBlock) : K8 tb W W' := fun k o h1 _ h3 => by
  rw [h.block k (box_lt h1) (fun e => ?_)]
  · exact h1
  · rcases ho.2 with ⟨h0, _⟩ | ⟨g, cap, cur, hv, _, hh, _⟩
    · rw [h0] at e; simp [Value.ownBlock] at e
    · rw [hv] at e
      have : g = k := by simpa [Value.ownBlock] using e.symm
      rw [this, h1] at hh
      exact h3 cur (0, 0) (Option.some.inj hh)
theorem k8_set {tb : Nat} {u : Value} : K8 (some tb) W (W.setCell ⟨tb, 0, none⟩ u) := fun k o h1 h2 _ => by
  rw [Below.heap_setCell _ _ _ _ (fun e => h2 (congrArg some e))]
  exact h1
theorem k8_none {tb : Option Nat} (h : K8 none W W') : K8 tb W W' := fun k o h1 _ h3 => h k o h1 (by simp) h3
/-- A state lies as it lay. -/
theorem QSt.txt {B : Nat} {Q : Cd} {sb mb : Nat} {v : Rp → Value} {s : Sx} (h : QSt W B Q sb mb v s) (hty : ∀ r, pTy Q.K r ≠ 5 ∧ pTy Q.K r ≠ 110) (ht : Txt W W') : QSt W' B Q sb mb v s := by
  refine ⟨⟨fun r => ?_, h.fam.apart⟩, h.st, h.mem, h.box⟩
  have ho := h.fam.own r
  refine ⟨ho.1, ?_⟩
  rcases ho.2 with h0 | ⟨g, cap, cur, hv, hg, hh, r'⟩
  · exact Or.inl h0
  · exact Or.inr ⟨g, cap, cur, hv, hg, ht g cur _ (hty r).1 (hty r).2 hh, r'⟩
end
attribute [local go_sem ↓] appS_eq
set_option maxRecDepth 100000 in
set_option maxHeartbeats 1600000 in
/-- A number more in the text. -/
theorem atext1_any (W : World) (B tb : Nat) (bs : List UInt8) (n : Int) (hT : TxR W B tb bs) (hB : B ≤ W.heap.size) (htb : B ≤ tb) (htab : TabB B W) (hn : I64n n) (hl : bs.length ≤ 500000) :
    Calls Tryz.prog 79 #[.int .i64 n, .pointer (some ⟨tb, 0, none⟩)] W fun e W' => e = .returned (.tuple #[]) ∧ TxR W' B tb (bs ++ (Lib.itoa n ++ [32])) ∧ Below B W W' ∧ Txt W W' ∧ K8 (some tb) W W' := by
  obtain ⟨v, hbx, hown⟩ := hT.ex
  have HC := Hid.out (p := Hid _) (Tryz.strconv_AppendInt_10 B bs.length n hn.1 hn.2 v (Lib.byteCells bs) W hown hB (by omega) htab)
  have c0 : W.cell? ⟨tb, 0, none⟩ = some v := box_cell hbx rfl
  have hil := Lib.itoa_length_le n hn.1 hn.2
  obtain ⟨a, cap, hv⟩ := fam_form hown
  have HBX := Hid.out (p := Hid _) hbx
  rw [hv] at c0 HC
  obtain ⟨bl, hbl⟩ : ∃ k, bs.length = k := ⟨_, rfl⟩
  have HBL : Hid (bs.length = bl) := hbl
  rw [hbl] at c0 HC hl
  clear hown hv hT htab hn hbx hbl
  go_enter Tryz.func79, Tryz.ntmps79
  go_wp2_with fail
  refine Calls.mono HC.out ?_
  rintro e w1 ⟨v1, rfl, ho1, hb1, hk1⟩
  obtain ⟨a1, cap1, rfl⟩ := fam_form ho1
  obtain ⟨L, hL⟩ : ∃ L, bl + (Lib.itoa n).length = L := ⟨_, rfl⟩
  have HL : Hid (bl + (Lib.itoa n).length = L) := hL
  rw [hL] at ho1 ⊢
  have hLl : L ≤ 600000 := by omega
  have hbx1 : w1.heap[tb]? = some (.cells #[.slice a bl cap] 110) := by
    have := HBX.out
    rw [show v = .slice a bl cap by have := box_cell HBX.out (i := 0) rfl; rw [c0] at this; exact (Option.some.inj this).symm] at this
    exact hk1 tb _ this (by simp) (fun c fz e => by injection e with _ e2; exact absurd e2 (by decide))
  have hBz : B ≤ w1.heap.size := Nat.le_trans hB hb1.size
  obtain ⟨g, cap2, w3, hrun, ho3, hg3, hat⟩ := app_row (T := 110) Tryz.underlying110 infoU8 rfl (by omega) ho1 (Below.refl _ w1) hBz 1 #[.int .u8 32] rfl (by simp [Value.oneCell']) (by omega) (by omega) (by omega)
  have hba : Below w1.heap.size w1 (w1.alloc (.cells #[.int .u8 32] 5)) := (Below.refl _ _).alloc (Nat.le_refl _) _
  have hoa : (w1.alloc (.cells #[.int .u8 32] 5)).ownsRow B 5 1 (.slice a1 L cap1) L (Lib.byteCells bs ++ Lib.byteCells (Lib.itoa n)) := ho1.alloc _
  have ht3 : Txt w1 w3 := (Txt.below hba).trans (Txt.grown hoa hg3)
  have hbxa : (w1.alloc (.cells #[.int .u8 32] 5)).heap[tb]? = some (.cells #[.slice a bl cap] 110) := (hba.block tb (box_lt hbx1)).trans hbx1
  have hbx3 : w3.heap[tb]? = some (.cells #[.slice a bl cap] 110) := (hg3.block tb (box_lt hbxa) (fun e => own_type hoa hbxa (by decide) e.symm)).trans hbxa
  have hb3 : Below B w1 w3 := ((Below.refl B w1).alloc hBz _).grown hg3 (by simp; omega) (fun k hk => (ho1.lt k hk).1)
  have u0 : w3.cell? ⟨tb, 0, none⟩ = some (.slice a bl cap) := box_cell hbx3 rfl
  have uf : w3.frozen? ⟨tb, 0, none⟩ = false := box_free hbx3
  have ltb := box_lt hbx1
  have HR : Hid (TxR (w3.setCell ⟨tb, 0, none⟩ (.slice (some ⟨g, 0, none⟩) (L + 1) cap2)) B tb (bs ++ (Lib.itoa n ++ [32])) ∧ Below B W (w3.setCell ⟨tb, 0, none⟩ (.slice (some ⟨g, 0, none⟩) (L + 1) cap2)) ∧ Txt W (w3.setCell ⟨tb, 0, none⟩ (.slice (some ⟨g, 0, none⟩) (L + 1) cap2)) ∧ K8 (some tb) W (w3.setCell ⟨tb, 0, none⟩ (.slice (some ⟨g, 0, none⟩) (L + 1) cap2))) := by
    refine ⟨⟨_, (heap_set_same hbx3).trans rfl, ?_⟩, ((hb1.trans hb3).setCell htb _), ((Txt.kept hk1).trans ht3).trans (Txt.set hbx3), (((k8_none hk1).trans (k8_below hba)).trans (k8_grown hoa hg3)).trans k8_set⟩
    have e1 : (bs ++ (Lib.itoa n ++ [32])).length = L + 1 := by
      have h1 := HL.out
      have h2 := HBL.out
      simp only [List.length_append, List.length_singleton]
      omega
    have e2 : Lib.byteCells (bs ++ (Lib.itoa n ++ [32])) = Lib.byteCells bs ++ Lib.byteCells (Lib.itoa n) ++ #[Value.int .u8 32].toList := by simp [Lib.byteCells]
    rw [e1, e2]
    exact fam_keeps ho3 (fun k hk => Below.heap_setCell _ _ _ _ (fun e => own_type ho3 hbx3 (by decide) (by rw [hk]; exact congrArg some e)))
  clear hk1 ho1 hb1 hbx1 hbx3 hbxa hoa ho3 hg3 hat hba ht3 hb3 HC HBX HL hL
  go_wp2
  all_goals go_end0
  all_goals exact ⟨rfl, HR.out⟩

/-- What was written of a state so far. -/
def TxI (B tb : Nat) (W0 : World) (xs : List Int) (V : World) : Prop := TxR V B tb (textT xs) ∧ Below B W0 V ∧ Txt W0 V ∧ (∀ x, x ∈ xs → I64n x) ∧ K8 (some tb) W0 V
theorem txi_ear {B tb : Nat} {W0 : World} {Q : Cd} {sb mb Bs : Nat} {v : Rp → Value} {s : Sx} (hs : QSt W0 Bs Q sb mb v s) (hty : ∀ r, pTy Q.K r ≠ 5 ∧ pTy Q.K r ≠ 110) (hB : B ≤ W0.heap.size) (htb : B ≤ tb) (htab : TabB B W0) : Ear 79 #[.pointer (some ⟨tb, 0, none⟩)] Bs Q sb mb v s (TxI B tb W0) where
  fn xs w := by kernel_rfl
  st xs W h := hs.txt hty h.2.2.1
  more xs W W' h hb := by
    obtain ⟨⟨v, h1, h2⟩, h3, h4, h5, h6⟩ := h
    exact ⟨⟨v, (hb.block _ (box_lt h1)).trans h1, fam_keeps h2 (fun g hg => hb.block g (h2.lt g hg).2)⟩, h3.trans (hb.mono (Nat.le_trans hB h3.size)), h4.trans (Txt.below hb), h5, h6.trans (k8_below hb)⟩
  tell xs W n hn hl h := by
    obtain ⟨h1, h3, h4, h5, h6⟩ := h
    refine (atext1_any W B tb (textT xs) n h1 (Nat.le_trans hB h3.size) htb (htab.on h3) hn (by have := textT_len h5; omega)).mono fun e W' g => ⟨g.1, ⟨by rw [textT_snoc]; exact g.2.1, h3.trans g.2.2.1, h4.trans g.2.2.2.1, fun x hx => ?_, h6.trans g.2.2.2.2⟩, g.2.2.2.1⟩
    rcases List.mem_append.mp hx with hx | hx
    · exact h5 x hx
    · rw [List.mem_singleton.mp hx]; exact hn
set_option maxRecDepth 100000 in
set_option maxHeartbeats 1600000 in
/-- A state's text. -/
theorem atext_any (W : World) (B : Nat) (a : Option Addr) (cap : Nat) (Q : Cd) (sb mb Bs : Nat) (v : Rp → Value) (s : Sx) (tf : Nat) (hs : QSt W Bs Q sb mb v s) (hty : ∀ r, pTy Q.K r ≠ 5 ∧ pTy Q.K r ≠ 110) (hT : MTell Q.K tf) (ho : TOk Q s) (hB : B ≤ W.heap.size) (htab : TabB B W) (hrow : W.ownsRow B 5 1 (.slice a 0 cap) 0 []) :
    Calls Tryz.prog 48 #[.slice a 0 cap, .pointer (some ⟨sb, 0, none⟩)] W fun e W' => ∃ u, e = .returned u ∧ W'.ownsRow B 5 1 u (textT (telX Q.K.mode s)).length (Lib.byteCells (textT (telX Q.K.mode s))) ∧ Below B W W' ∧ K8 none W W' := by
  obtain ⟨W0, hW0⟩ : ∃ V, V = W.alloc (.cells #[.slice a 0 cap] 110) := ⟨_, rfl⟩
  have hb0 : Below W.heap.size W W0 := by rw [hW0]; exact (Below.refl _ _).alloc (Nat.le_refl _) _
  have hE := txi_ear (B := B) (tb := W.heap.size) (W0 := W0) (hs.below hb0) hty (Nat.le_trans hB hb0.size) hB (fun V hV => htab V ((hb0.mono hB).trans hV))
  have h0 : TxI B W.heap.size W0 [] W0 := by
    refine ⟨⟨_, by rw [hW0]; exact heap_alloc_new _ _, ?_⟩, Below.refl _ _, Txt.refl _, (fun x hx => by cases hx), Lib.OthersKept.refl _ _ _⟩
    rw [hW0]
    exact hrow.alloc _
  have HC := Hid.out (p := Hid _) (stell_any W0 _ _ Bs Q sb mb v s _ hE tf hT ho h0)
  have HW0 : Hid (W.alloc (.cells #[.slice a 0 cap] 110) = W0) := hW0.symm
  have HB0 : Hid (Below B W W0 ∧ K8 none W W0) := ⟨hb0.mono hB, k8_below hb0⟩
  obtain ⟨n, hn⟩ : ∃ n, (textT (telX Q.K.mode s)).length = n := ⟨_, rfl⟩
  have HN : Hid ((textT (telX Q.K.mode s)).length = n) := hn
  rw [hn]
  clear hW0 hb0 hE h0 hs hT ho htab hrow hn
  go_enter Tryz.func48, Tryz.ntmps48
  go_wp2_with fail
  rw [HW0.out]
  refine Calls.mono HC.out ?_
  rintro e w1 ⟨rfl, h1⟩
  obtain ⟨⟨u, hbx, hown⟩, hb1, _, _, ht1⟩ := h1
  have ht1' : K8 none W w1 := fun k o h1 _ h3 => ht1 k o (HB0.out.2 k o h1 (by simp) h3) (fun e => by have := box_lt h1; injection e with e; omega) h3
  have c0 : w1.cell? ⟨W.heap.size, 0, none⟩ = some u := box_cell hbx rfl
  rw [HN.out] at hown
  obtain ⟨ua, uc, rfl⟩ := fam_form hown
  have HR := Hid.out (p := Hid _) (And.intro hown (And.intro (HB0.out.1.trans hb1) ht1'))
  clear hown hb1 ht1 ht1' hbx HC
  go_wp2_with fail
  go_ret
  exact ⟨_, rfl, HR.out⟩
end

end Go.Proofs.YtgofbkgfonlceacGreatDoor
