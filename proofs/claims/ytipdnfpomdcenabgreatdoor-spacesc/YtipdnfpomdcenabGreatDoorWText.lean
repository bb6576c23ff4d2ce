/-
  A state's text, as the program writes it.
-/
import Derived.Test.YtipdnfpomdcenabGreatDoorWTell
import Derived.Test.YtipdnfpomdcenabGreatDoorShelf
import Derived.Lib.OthersKept
import Derived.Lib.AppendIntMem
namespace Go.Proofs.YtipdnfpomdcenabGreatDoor
open Go.RowKit

theorem infoU8 : (Tryz.prog.info? 5).map (fun i => (i.zero, i.size, i.bytes)) = some (some (.int .u8 0), 1, 1) := by kernel_rfl
/-- The table of powers of ten. -/
abbrev TabB (B : Nat) (w : World) : Prop := Lib.TabBelow Tryz.prog B w "internal/strconv.uint64pow10" .u64 Lib.pow10Tab
/-- A box tb with bytes. -/
structure TxR (W : World) (B tb : Nat) (bs : List UInt8) : Prop where
  ex : ∃ v, W.heap[tb]? = some (.cells #[v] 145) ∧ W.ownsRow B 5 1 v bs.length (Lib.byteCells bs)
section
variable {W W' W'' : World}
theorem Txt.refl (W : World) : Txt W W := fun _ _ _ _ _ h => h
theorem Txt.trans (h : Txt W W') (k : Txt W' W'') : Txt W W'' := fun i c t h1 h2 h3 => k i c t h1 h2 (h i c t h1 h2 h3)
theorem Txt.below (h : Below W.heap.size W W') : Txt W W' := fun i c t _ _ h3 => by
  rw [h.block i (box_lt h3)]; exact h3
theorem Txt.kept (h : Lib.OthersKept 5 none W W') : Txt W W' := fun i c t h1 _ h3 => h i _ h3 (by simp) (fun c' fz e => h1 (by injection e))
theorem Txt.set {tb : Nat} {v u : Value} (h : W.heap[tb]? = some (.cells #[v] 145)) : Txt W (W.setCell ⟨tb, 0, none⟩ u) := fun i c t _ h2 h3 => by
  rw [Below.heap_setCell _ _ _ _ (fun e => h2 (by rw [show i = tb from e, h] at h3; injection (Option.some.inj h3) with _ e2; exact e2.symm))]
  exact h3
theorem Txt.grown {B : Nat} {v : Value} {n : Nat} {xs : List Value} (ho : W.ownsRow B 5 1 v n xs) (h : W.grownBy W' v.ownBlock) : Txt W W' := fun i c t h1 _ h3 => by
  rw [h.block i (box_lt h3) (fun e => own_type ho h3 (fun e' => h1 e'.symm) e.symm)]
  exact h3
/-- Nothing has turned but bytes, and the box tb. -/
abbrev K8 (tb : Option Nat) (W W' : World) : Prop := Lib.OthersKept 5 tb W W'
theorem k8_below {tb : Option Nat} (h : Below W.heap.size W W') : K8 tb W W' := fun k o h1 _ _ => by rw [h.block k (box_lt h1)]; exact h1
theorem k8_grown {tb : Option Nat} {B : Nat} {v : Value} {n : Nat} {xs : List Value} (ho : W.ownsRow B 5 1 v n xs) (h : W.grownBy W' v.ownBlock) : K8 tb W W' := fun k o h1 _ h3 => by
  rw [h.block k (box_lt h1) (fun e => ?_)]
  · exact h1
  · rcases ho.2 with ⟨h0, _⟩ | ⟨g, cap, cur, hv, _, hh, _⟩
    · rw [h0] at e; simp [Value.ownBlock] at e
    · rw [hv] at e
      have : g = k := by simpa [Value.ownBlock] using e.symm
      rw [this, h1] at hh
      exact h3 cur (0, 0) (Option.some.inj hh)
theorem k8_set {tb : Nat} {u : Value} : K8 (some tb) W (W.setCell ⟨tb, 0, none⟩ u) := fun k o h1 h2 _ => by
  rw [Below.heap_setCell _ _ _ _ (fun e => h2 (congrArg some e))]
  exact h1
theorem k8_none {tb : Option Nat} (h : K8 none W W') : K8 tb W W' := fun k o h1 _ h3 => h k o h1 (by simp) h3
/-- A state lies as it lay. -/
theorem QSt.txt {B : Nat} {Q : Cd} {sb mb : Nat} {v : Rp → Value} {s : Sx} (h : QSt W B Q sb mb v s) (hty : ∀ r, pTy Q.K r ≠ 5 ∧ pTy Q.K r ≠ 145) (ht : Txt W W') : QSt W' B Q sb mb v s := by
  refine ⟨⟨fun r => ?_, h.fam.apart⟩, h.st, h.mem, h.box⟩
  have ho := h.fam.own r
  refine ⟨ho.1, ?_⟩
  rcases ho.2 with h0 | ⟨g, cap, cur, hv, hg, hh, r'⟩
  · exact Or.inl h0
  · exact Or.inr ⟨g, cap, cur, hv, hg, ht g cur _ (hty r).1 (hty r).2 hh, r'⟩
end
theorem plain_ty (r : Rp) : pTy plainK r ≠ 5 ∧ pTy plainK r ≠ 145 := by cases r <;> simp [pTy, plainK]
theorem buf_ty (r : Rp) : pTy bufK r ≠ 5 ∧ pTy bufK r ≠ 145 := by cases r <;> simp [pTy, bufK]

attribute [local go_sem ↓] appS_eq
set_option maxRecDepth 100000 in
set_option maxHeartbeats 1600000 in
/-- A number more in the text. -/
theorem atext1_any (W : World) (B tb : Nat) (bs : List UInt8) (n : Int) (hT : TxR W B tb bs) (hB : B ≤ W.heap.size) (htb : B ≤ tb) (htab : TabB B W) (hn : I64n n) (hl : bs.length ≤ 500000) :
    Calls Tryz.prog 102 #[.int .i64 n, .pointer (some ⟨tb, 0, none⟩)] W fun e W' => e = .returned (.tuple #[]) ∧ TxR W' B tb (bs ++ (Lib.itoa n ++ [32])) ∧ Below B W W' ∧ Txt W W' ∧ K8 (some tb) W W' := by
  obtain ⟨v, hbx, hown⟩ := hT.ex
  have HC := Hid.out (p := Hid _) (Tryz.strconv_AppendInt_10 B bs.length n hn.1 hn.2 v (Lib.byteCells bs) W hown hB (by omega) htab)
  have c0 : W.cell? ⟨tb, 0, none⟩ = some v := box_cell hbx rfl
  have hil := Lib.itoa_length_le n hn.1 hn.2
  obtain ⟨a, cap, hv⟩ := fam_form hown
  have HBX := Hid.out (p := Hid _) hbx
  rw [hv] at c0 HC
  obtain ⟨bl, hbl⟩ : ∃ k, bs.length = k := ⟨_, rfl⟩
  have HBL : Hid (bs.length = bl) := hbl
  rw [hbl] at c0 HC hl
  clear hown hv hT htab hn hbx hbl
  go_enter Tryz.func102, Tryz.ntmps102
  go_wp2_with fail
  refine Calls.mono HC.out ?_
  rintro e w1 ⟨v1, rfl, ho1, hb1, hk1⟩
  obtain ⟨a1, cap1, rfl⟩ := fam_form ho1
  obtain ⟨L, hL⟩ : ∃ L, bl + (Lib.itoa n).length = L := ⟨_, rfl⟩
  have HL : Hid (bl + (Lib.itoa n).length = L) := hL
  rw [hL] at ho1 ⊢
  have hLl : L ≤ 600000 := by omega
  have hbx1 : w1.heap[tb]? = some (.cells #[.slice a bl cap] 145) := by
    have := HBX.out
    rw [show v = .slice a bl cap by have := box_cell HBX.out (i := 0) rfl; rw [c0] at this; exact (Option.some.inj this).symm] at this
    exact hk1 tb _ this (by simp) (fun c fz e => by injection e with _ e2; exact absurd e2 (by decide))
  have hBz : B ≤ w1.heap.size := Nat.le_trans hB hb1.size
  obtain ⟨g, cap2, w3, hrun, ho3, hg3, hat⟩ := app_row (T := 145) Tryz.underlying145 infoU8 rfl (by omega) ho1 (Below.refl _ w1) hBz 1 #[.int .u8 32] rfl (by simp [Value.oneCell']) (by omega) (by omega) (by omega)
  have hba : Below w1.heap.size w1 (w1.alloc (.cells #[.int .u8 32] 5)) := (Below.refl _ _).alloc (Nat.le_refl _) _
  have hoa : (w1.alloc (.cells #[.int .u8 32] 5)).ownsRow B 5 1 (.slice a1 L cap1) L (Lib.byteCells bs ++ Lib.byteCells (Lib.itoa n)) := ho1.alloc _
  have ht3 : Txt w1 w3 := (Txt.below hba).trans (Txt.grown hoa hg3)
  have hbxa : (w1.alloc (.cells #[.int .u8 32] 5)).heap[tb]? = some (.cells #[.slice a bl cap] 145) := (hba.block tb (box_lt hbx1)).trans hbx1
  have hbx3 : w3.heap[tb]? = some (.cells #[.slice a bl cap] 145) := (hg3.block tb (box_lt hbxa) (fun e => own_type hoa hbxa (by decide) e.symm)).trans hbxa
  have hb3 : Below B w1 w3 := ((Below.refl B w1).alloc hBz _).grown hg3 (by simp; omega) (fun k hk => (ho1.lt k hk).1)
  have u0 : w3.cell? ⟨tb, 0, none⟩ = some (.slice a bl cap) := box_cell hbx3 rfl
  have uf : w3.frozen? ⟨tb, 0, none⟩ = false := box_free hbx3
  have ltb := box_lt hbx1
  have HR : Hid (TxR (w3.setCell ⟨tb, 0, none⟩ (.slice (some ⟨g, 0, none⟩) (L + 1) cap2)) B tb (bs ++ (Lib.itoa n ++ [32])) ∧ Below B W (w3.setCell ⟨tb, 0, none⟩ (.slice (some ⟨g, 0, none⟩) (L + 1) cap2)) ∧ Txt W (w3.setCell ⟨tb, 0, none⟩ (.slice (some ⟨g, 0, none⟩) (L + 1) cap2)) ∧ K8 (some tb) W (w3.setCell ⟨tb, 0, none⟩ (.slice (some ⟨g, 0, none⟩) (L + 1) cap2))) := by
    refine ⟨⟨_, (heap_set_same hbx3).trans rfl, ?_⟩, ((hb1.trans hb3).setCell htb _), ((Txt.kept hk1).trans ht3).trans (Txt.set hbx3), (((k8_none hk1).trans (k8_below hba)).trans (k8_grown hoa hg3)).trans k8_set⟩
    have e1 : (bs ++ (Lib.itoa n ++ [32])).length = L + 1 := by
      have h1 := HL.out
      have h2 := HBL.out
      simp only [List.length_append, List.length_singleton]
      omega
    have e2 : Lib.byteCells (bs ++ (Lib.itoa n ++ [32])) = Lib.byteCells bs ++ Lib.byteCells (Lib.itoa n) ++ #[Value.int .u8 32].toList := by simp [Lib.byteCells]
    rw [e1, e2]
    exact fam_keeps ho3 (fun k hk => Below.heap_setCell _ _ _ _ (fun e => own_type ho3 hbx3 (by decide) (by rw [hk]; exact congrArg some e)))
  clear hk1 ho1 hb1 hbx1 hbx3 hbxa hoa ho3 hg3 hat hba ht3 hb3 HC HBX HL hL
  go_wp2
  all_goals go_end0
  all_goals exact ⟨rfl, HR.out⟩

/-- What was written of a state so far. -/
def TxI (B tb : Nat) (W0 : World) (xs : List Int) (V : World) : Prop := TxR V B tb (textT xs) ∧ Below B W0 V ∧ Txt W0 V ∧ (∀ x, x ∈ xs → I64n x) ∧ K8 (some tb) W0 V
theorem txi_ear {B tb : Nat} {W0 : World} {Q : Cd} {sb mb Bs : Nat} {v : Rp → Value} {s : Sx} (hs : QSt W0 Bs Q sb mb v s) (hty : ∀ r, pTy Q.K r ≠ 5 ∧ pTy Q.K r ≠ 145) (hB : B ≤ W0.heap.size) (htb : B ≤ tb) (htab : TabB B W0) : Ear 102 #[.pointer (some ⟨tb, 0, none⟩)] Bs Q sb mb v s (TxI B tb W0) where
  fn xs w := by kernel_rfl
  st xs W h := hs.txt hty h.2.2.1
  more xs W W' h hb := by
    obtain ⟨⟨v, h1, h2⟩, h3, h4, h5, h6⟩ := h
    exact ⟨⟨v, (hb.block _ (box_lt h1)).trans h1, fam_keeps h2 (fun g hg => hb.block g (h2.lt g hg).2)⟩, h3.trans (hb.mono (Nat.le_trans hB h3.size)), h4.trans (Txt.below hb), h5, h6.trans (k8_below hb)⟩
  tell xs W n hn hl h := by
    obtain ⟨h1, h3, h4, h5, h6⟩ := h
    refine (atext1_any W B tb (textT xs) n h1 (Nat.le_trans hB h3.size) htb (htab.on h3) hn (by have := textT_len h5; omega)).mono fun e W' g => ⟨g.1, ⟨by rw [textT_snoc]; exact g.2.1, h3.trans g.2.2.1, h4.trans g.2.2.2.1, fun x hx => ?_, h6.trans g.2.2.2.2⟩, g.2.2.2.1⟩
    rcases List.mem_append.mp hx with hx | hx
    · exact h5 x hx
    · rw [List.mem_singleton.mp hx]; exact hn
set_option maxRecDepth 100000 in
set_option maxHeartbeats 1600000 in
/-- A state's text. -/
theorem atext_any (W : World) (B : Nat) (a : Option Addr) (cap : Nat) (Q : Cd) (sb mb Bs : Nat) (v : Rp → Value) (s : Sx) (tf : Nat) (hs : QSt W Bs Q sb mb v s) (hty : ∀ r, pTy Q.K r ≠ 5 ∧ pTy Q.K r ≠ 145) (hT : MTell Q.K tf) (ho : TOk Q s) (hB : B ≤ W.heap.size) (htab : TabB B W) (hrow : W.ownsRow B 5 1 (.slice a 0 cap) 0 []) :
    Calls Tryz.prog 73 #[.slice a 0 cap, .pointer (some ⟨sb, 0, none⟩)] W fun e W' => ∃ u, e = .returned u ∧ W'.ownsRow B 5 1 u (textT (telX Q.K.mode s)).length (Lib.byteCells (textT (telX Q.K.mode s))) ∧ Below B W W' ∧ K8 none W W' := by
  obtain ⟨W0, hW0⟩ : ∃ V, V = W.alloc (.cells #[.slice a 0 cap] 145) := ⟨_, rfl⟩
  have hb0 : Below W.heap.size W W0 := by rw [hW0]; exact (Below.refl _ _).alloc (Nat.le_refl _) _
  have hE := txi_ear (B := B) (tb := W.heap.size) (W0 := W0) (hs.below hb0) hty (Nat.le_trans hB hb0.size) hB (fun V hV => htab V ((hb0.mono hB).trans hV))
  have h0 : TxI B W.heap.size W0 [] W0 := by
    refine ⟨⟨_, by rw [hW0]; exact heap_alloc_new _ _, ?_⟩, Below.refl _ _, Txt.refl _, (fun x hx => by cases hx), Lib.OthersKept.refl _ _ _⟩
    rw [hW0]
    exact hrow.alloc _
  have HC := Hid.out (p := Hid _) (stell_any W0 _ _ Bs Q sb mb v s _ hE tf hT ho h0)
  have HW0 : Hid (W.alloc (.cells #[.slice a 0 cap] 145) = W0) := hW0.symm
  have HB0 : Hid (Below B W W0 ∧ K8 none W W0) := ⟨hb0.mono hB, k8_below hb0⟩
  obtain ⟨n, hn⟩ : ∃ n, (textT (telX Q.K.mode s)).length = n := ⟨_, rfl⟩
  have HN : Hid ((textT (telX Q.K.mode s)).length = n) := hn
  rw [hn]
  clear hW0 hb0 hE h0 hs hT ho htab hrow hn
  go_enter Tryz.func73, Tryz.ntmps73
  go_wp2_with fail
  rw [HW0.out]
  refine Calls.mono HC.out ?_
  rintro e w1 ⟨rfl, h1⟩
  obtain ⟨⟨u, hbx, hown⟩, hb1, _, _, ht1⟩ := h1
  have ht1' : K8 none W w1 := fun k o h1 _ h3 => ht1 k o (HB0.out.2 k o h1 (by simp) h3) (fun e => by have := box_lt h1; injection e with e; omega) h3
  have c0 : w1.cell? ⟨W.heap.size, 0, none⟩ = some u := box_cell hbx rfl
  rw [HN.out] at hown
  obtain ⟨ua, uc, rfl⟩ := fam_form hown
  have HR := Hid.out (p := Hid _) (And.intro hown (And.intro (HB0.out.1.trans hb1) ht1'))
  clear hown hb1 ht1 ht1' hbx HC
  go_wp2_with fail
  go_ret
  exact ⟨_, rfl, HR.out⟩

end Go.Proofs.YtipdnfpomdcenabGreatDoor
