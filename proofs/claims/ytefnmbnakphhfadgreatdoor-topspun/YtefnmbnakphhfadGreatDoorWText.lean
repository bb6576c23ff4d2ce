/-
  A state's text, as the program writes it.
  What the program knows while it goes through states: as it lies in memory, and what stays as it was.
-/
import Derived.Test.YtefnmbnakphhfadGreatDoorWTell3
import Derived.Test.YtefnmbnakphhfadGreatDoorShelf
import Derived.Lib.OthersKept
import Derived.Lib.AppendIntMem
import Derived.Test.YtefnmbnakphhfadGreatDoorWClone5
import Derived.Test.YtefnmbnakphhfadGreatDoorTruth
import Derived.Test.YtefnmbnakphhfadGreatDoorRLk
import Derived.Maps.OwnSet
import Derived.StringKeys
import Derived.Laws.IdiomStrings
namespace Go.Proofs.YtefnmbnakphhfadGreatDoor
section
open Go.RowKit

theorem infoU8 : (Tryz.prog.info? 5).map (fun i => (i.zero, i.size, i.bytes)) = some (some (.int .u8 0), 1, 1) := by kernel_rfl
/-- The table of powers of ten. -/
abbrev TabB (B : Nat) (w : World) : Prop := Lib.TabBelow Tryz.prog B w "internal/strconv.uint64pow10" .u64 Lib.pow10Tab
/-- A box tb with bytes. -/
structure TxR (W : World) (B tb : Nat) (bs : List UInt8) : Prop where
  ex : ∃ v, W.heap[tb]? = some (.cells #[v] 126) ∧ W.ownsRow B 5 1 v bs.length (Lib.byteCells bs)
section
variable {W W' W'' : World}
theorem Txt.refl (W : World) : Txt W W := fun _ _ _ _ _ h => h
theorem Txt.trans (h : Txt W W') (k : Txt W' W'') : Txt W W'' := fun i c t h1 h2 h3 => k i c t h1 h2 (h i c t h1 h2 h3)
theorem Txt.below (h : Below W.heap.size W W') : Txt W W' := fun i c t _ _ h3 => by
  rw [h.block i (box_lt h3)]; exact h3
theorem Txt.kept (h : Lib.OthersKept 5 none W W') : Txt W W' := fun i c t h1 _ h3 => h i _ h3 (by simp) (fun c' fz e => h1 (by injection e))
theorem Txt.set {tb : Nat} {v u : Value} (h : W.heap[tb]? = some (.cells #[v] 126)) : Txt W (W.setCell ⟨tb, 0, none⟩ u) := fun i c t _ h2 h3 => by
  rw [Below.heap_setCell _ _ _ _ (fun e => h2 (by rw [show i = tb from e, h] at h3; injection (Option.some.inj h3) with _ e2; exact e2.symm))]
  exact h3
theorem Txt.grown {B : Nat} {v : Value} {n : Nat} {xs : List Value} (ho : W.ownsRow B 5 1 v n xs) (h : W.grownBy W' v.ownBlock) : Txt W W' := fun i c t h1 _ h3 => by
  rw [h.block i (box_lt h3) (fun e => own_type ho h3 (fun e' => h1 e'.symm) e.symm)]
  exact h3
/-- Nothing has turned but bytes, and the box tb. -/
abbrev K8 (tb : Option Nat) (W W' : World) : Prop := Lib.OthersKept 5 tb W W'
theorem k8_below {tb : Option Nat} (h : Below W.heap.size W W') : K8 tb W W' := fun k o h1 _ _ => by rw [h.block k (box_lt h1)]; exact h1
theorem k8_grown {tb : Option Nat} {B : Nat} {v : Value} {n : Nat} {xs : List Value} (ho : W.ownsRow B 5 1 v n xs) (h : W.grownBy W' v.ownBlock) : K8 tb W W' := fun k o h1 _ h3 => by
  rw [h.block k (box_lt h1) (fun e => ?_)]
  · exact h1
  · rcases ho.2 with ⟨h0, _⟩ | ⟨g, cap, cur, hv, _, hh, _⟩
    · rw [h0] at e; simp [Value.ownBlock] at e
    · rw [hv] at e
      have : g = k := by simpa [Value.ownBlock] using e.symm
      rw [this, h1] at hh
      exact h3 cur (0, 0) (Option.some.inj hh)
theorem k8_set {tb : Nat} {u : Value} : K8 (some tb) W (W.setCell ⟨tb, 0, none⟩ u) := fun k o h1 h2 _ => by
  rw [Below.heap_setCell _ _ _ _ (fun e => h2 (congrArg some e))]
  exact h1
theorem k8_none {tb : Option Nat} (h : K8 none W W') : K8 tb W W' := fun k o h1 _ h3 => h k o h1 (by simp) h3
/-- A state lies as it lay. -/
theorem QSt.txt {B : Nat} {Q : Cd} {sb mb : Nat} {v : Rp → Value} {s : Sx} (h : QSt W B Q sb mb v s) (hty : ∀ r, pTy Q.K r ≠ 5 ∧ pTy Q.K r ≠ 126) (ht : Txt W W') : QSt W' B Q sb mb v s := by
  refine ⟨⟨fun r => ?_, h.fam.apart⟩, h.st, h.mem, h.box⟩
  have ho := h.fam.own r
  refine ⟨ho.1, ?_⟩
  rcases ho.2 with h0 | ⟨g, cap, cur, hv, hg, hh, r'⟩
  · exact Or.inl h0
  · exact Or.inr ⟨g, cap, cur, hv, hg, ht g cur _ (hty r).1 (hty r).2 hh, r'⟩
end
attribute [local go_sem ↓] appS_eq
set_option maxRecDepth 100000 in
set_option maxHeartbeats 1600000 in
/-- A number more in the text. -/
theorem atext1_any (W : World) (B tb : Nat) (bs : List UInt8) (n : Int) (hT : TxR W B tb bs) (hB : B ≤ W.heap.size) (htb : B ≤ tb) (htab : TabB B W) (hn : I64n n) (hl : bs.length ≤ 500000) :
    Calls Tryz.prog 78 #[.int .i64 n, .pointer (some ⟨tb, 0, none⟩)] W fun e W' => e = .returned (.tuple #[]) ∧ TxR W' B tb (bs ++ (Lib.itoa n ++ [32])) ∧ Below B W W' ∧ Txt W W' ∧ K8 (some tb) W W' := by
  obtain ⟨v, hbx, hown⟩ := hT.ex
  have HC := Hid.out (p := Hid _) (Tryz.strconv_AppendInt_10 B bs.length n hn.1 hn.2 v (Lib.byteCells bs) W hown hB (by omega) htab)
  have c0 : W.cell? ⟨tb, 0, none⟩ = some v := box_cell hbx rfl
  have hil := Lib.itoa_length_le n hn.1 hn.2
  obtain ⟨a, cap, hv⟩ := fam_form hown
  have HBX := Hid.out (p := Hid _) hbx
  rw [hv] at c0 HC
  obtain ⟨bl, hbl⟩ : ∃ k, bs.length = k := ⟨_, rfl⟩
  have HBL : Hid (bs.length = bl) := hbl
  rw [hbl] at c0 HC hl
  clear hown hv hT htab hn hbx hbl
  go_enter Tryz.func78, Tryz.ntmps78
  go_wp2_with fail
  refine Calls.mono HC.out ?_
  rintro e w1 ⟨v1, rfl, ho1, hb1, hk1⟩
  obtain ⟨a1, cap1, rfl⟩ := fam_form ho1
  obtain ⟨L, hL⟩ : ∃ L, bl + (Lib.itoa n).length = L := ⟨_, rfl⟩
  have HL : Hid (bl + (Lib.itoa n).length = L) := hL
  rw [hL] at ho1 ⊢
  have hLl : L ≤ 600000 := by omega
  have hbx1 : w1.heap[tb]? = some (.cells #[.slice a bl cap] 126) := by
    have := HBX.out
    rw [show v = .slice a bl cap by have := box_cell HBX.out (i := 0) rfl; rw [c0] at this; exact (Option.some.inj this).symm] at this
    exact hk1 tb _ this (by simp) (fun c fz e => by injection e with _ e2; exact absurd e2 (by decide))
  have hBz : B ≤ w1.heap.size := Nat.le_trans hB hb1.size
  obtain ⟨g, cap2, w3, hrun, ho3, hg3, hat⟩ := app_row (T := 126) Tryz.underlying126 infoU8 rfl (by omega) ho1 (Below.refl _ w1) hBz 1 #[.int .u8 32] rfl (by simp [Value.oneCell']) (by omega) (by omega) (by omega)
  have hba : Below w1.heap.size w1 (w1.alloc (.cells #[.int .u8 32] 5)) := (Below.refl _ _).alloc (Nat.le_refl _) _
  have hoa : (w1.alloc (.cells #[.int .u8 32] 5)).ownsRow B 5 1 (.slice a1 L cap1) L (Lib.byteCells bs ++ Lib.byteCells (Lib.itoa n)) := ho1.alloc _
  have ht3 : Txt w1 w3 := (Txt.below hba).trans (Txt.grown hoa hg3)
  have hbxa : (w1.alloc (.cells #[.int .u8 32] 5)).heap[tb]? = some (.cells #[.slice a bl cap] 126) := (hba.block tb (box_lt hbx1)).trans hbx1
  have hbx3 : w3.heap[tb]? = some (.cells #[.slice a bl cap] 126) := (hg3.block tb (box_lt hbxa) (fun e => own_type hoa hbxa (by decide) e.symm)).trans hbxa
  have hb3 : Below B w1 w3 := ((Below.refl B w1).alloc hBz _).grown hg3 (by simp; omega) (fun k hk => (ho1.lt k hk).1)
  have u0 : w3.cell? ⟨tb, 0, none⟩ = some (.slice a bl cap) := box_cell hbx3 rfl
  have uf : w3.frozen? ⟨tb, 0, none⟩ = false := box_free hbx3
  have ltb := box_lt hbx1
  have HR : Hid (TxR (w3.setCell ⟨tb, 0, none⟩ (.slice (some ⟨g, 0, none⟩) (L + 1) cap2)) B tb (bs ++ (Lib.itoa n ++ [32])) ∧ Below B W (w3.setCell ⟨tb, 0, none⟩ (.slice (some ⟨g, 0, none⟩) (L + 1) cap2)) ∧ Txt W (w3.setCell ⟨tb, 0, none⟩ (.slice (some ⟨g, 0, none⟩) (L + 1) cap2)) ∧ K8 (some tb) W (w3.setCell ⟨tb, 0, none⟩ (.slice (some ⟨g, 0, none⟩) (L + 1) cap2))) := by
    refine ⟨⟨_, (heap_set_same hbx3).trans rfl, ?_⟩, ((hb1.trans hb3).setCell htb _), ((Txt.kept hk1).trans ht3).trans (Txt.set hbx3), (((k8_none hk1).trans (k8_below hba)).trans (k8_grown hoa hg3)).trans k8_set⟩
    have e1 : (bs ++ (Lib.itoa n ++ [32])).length = L + 1 := by
      have h1 := HL.out
      have h2 := HBL.out
      simp only [List.length_append, List.length_singleton]
      omega
    have e2 : Lib.byteCells (bs ++ (Lib.itoa n ++ [32])) = Lib.byteCells bs ++ Lib.byteCells (Lib.itoa n) ++ #[Value.int .u8 32].toList := by simp [Lib.byteCells]
    rw [e1, e2]
    exact fam_keeps ho3 (fun k hk => Below.heap_setCell _ _ _ _ (fun e => own_type ho3 hbx3 (by decide) (by rw [hk]; exact congrArg some e)))
  clear hk1 ho1 hb1 hbx1 hbx3 hbxa hoa ho3 hg3 hat hba ht3 hb3 HC HBX HL hL
  go_wp2
  all_goals go_end0
  all_goals exact ⟨rfl, HR.out⟩

/-- What was written of a state so far. -/
def TxI (B tb : Nat) (W0 : World) (xs : List Int) (V : World) : Prop := TxR V B tb (textT xs) ∧ Below B W0 V ∧ Txt W0 V ∧ (∀ x, x ∈ xs → I64n x) ∧ K8 (some tb) W0 V
theorem txi_ear {B tb : Nat} {W0 : World} {Q : Cd} {sb mb Bs : Nat} {v : Rp → Value} {s : Sx} (hs : QSt W0 Bs Q sb mb v s) (hty : ∀ r, pTy Q.K r ≠ 5 ∧ pTy Q.K r ≠ 126) (hB : B ≤ W0.heap.size) (htb : B ≤ tb) (htab : TabB B W0) : Ear 78 #[.pointer (some ⟨tb, 0, none⟩)] Bs Q sb mb v s (TxI B tb W0) where
  fn xs w := by kernel_rfl
  st xs W h := hs.txt hty h.2.2.1
  more xs W W' h hb := by
    obtain ⟨⟨v, h1, h2⟩, h3, h4, h5, h6⟩ := h
    exact ⟨⟨v, (hb.block _ (box_lt h1)).trans h1, fam_keeps h2 (fun g hg => hb.block g (h2.lt g hg).2)⟩, h3.trans (hb.mono (Nat.le_trans hB h3.size)), h4.trans (Txt.below hb), h5, h6.trans (k8_below hb)⟩
  tell xs W n hn hl h := by
    obtain ⟨h1, h3, h4, h5, h6⟩ := h
    refine (atext1_any W B tb (textT xs) n h1 (Nat.le_trans hB h3.size) htb (htab.on h3) hn (by have := textT_len h5; omega)).mono fun e W' g => ⟨g.1, ⟨by rw [textT_snoc]; exact g.2.1, h3.trans g.2.2.1, h4.trans g.2.2.2.1, fun x hx => ?_, h6.trans g.2.2.2.2⟩, g.2.2.2.1⟩
    rcases List.mem_append.mp hx with hx | hx
    · exact h5 x hx
    · rw [List.mem_singleton.mp hx]; exact hn
set_option maxRecDepth 100000 in
set_option maxHeartbeats 1600000 in
/-- A state's text. -/
theorem atext_any (W : World) (B : Nat) (a : Option Addr) (cap : Nat) (Q : Cd) (sb mb Bs : Nat) (v : Rp → Value) (s : Sx) (tf : Nat) (hs : QSt W Bs Q sb mb v s) (hty : ∀ r, pTy Q.K r ≠ 5 ∧ pTy Q.K r ≠ 126) (hT : MTell Q.K tf) (ho : TOk Q s) (hB : B ≤ W.heap.size) (htab : TabB B W) (hrow : W.ownsRow B 5 1 (.slice a 0 cap) 0 []) :
    Calls Tryz.prog 68 #[.slice a 0 cap, .pointer (some ⟨sb, 0, none⟩)] W fun e W' => ∃ u, e = .returned u ∧ W'.ownsRow B 5 1 u (textT (telX Q.K.mode s)).length (Lib.byteCells (textT (telX Q.K.mode s))) ∧ Below B W W' ∧ K8 none W W' := by
  obtain ⟨W0, hW0⟩ : ∃ V, V = W.alloc (.cells #[.slice a 0 cap] 126) := ⟨_, rfl⟩
  have hb0 : Below W.heap.size W W0 := by rw [hW0]; exact (Below.refl _ _).alloc (Nat.le_refl _) _
  have hE := txi_ear (B := B) (tb := W.heap.size) (W0 := W0) (hs.below hb0) hty (Nat.le_trans hB hb0.size) hB (fun V hV => htab V ((hb0.mono hB).trans hV))
  have h0 : TxI B W.heap.size W0 [] W0 := by
    refine ⟨⟨_, by rw [hW0]; exact heap_alloc_new _ _, ?_⟩, Below.refl _ _, Txt.refl _, (fun x hx => by cases hx), Lib.OthersKept.refl _ _ _⟩
    rw [hW0]
    exact hrow.alloc _
  have HC := Hid.out (p := Hid _) (stell_any W0 _ _ Bs Q sb mb v s _ hE tf hT ho h0)
  have HW0 : Hid (W.alloc (.cells #[.slice a 0 cap] 126) = W0) := hW0.symm
  have HB0 : Hid (Below B W W0 ∧ K8 none W W0) := ⟨hb0.mono hB, k8_below hb0⟩
  obtain ⟨n, hn⟩ : ∃ n, (textT (telX Q.K.mode s)).length = n := ⟨_, rfl⟩
  have HN : Hid ((textT (telX Q.K.mode s)).length = n) := hn
  rw [hn]
  clear hW0 hb0 hE h0 hs hT ho htab hrow hn
  go_enter Tryz.func68, Tryz.ntmps68
  go_wp2_with fail
  rw [HW0.out]
  refine Calls.mono HC.out ?_
  rintro e w1 ⟨rfl, h1⟩
  obtain ⟨⟨u, hbx, hown⟩, hb1, _, _, ht1⟩ := h1
  have ht1' : K8 none W w1 := fun k o h1 _ h3 => ht1 k o (HB0.out.2 k o h1 (by simp) h3) (fun e => by have := box_lt h1; injection e with e; omega) h3
  have c0 : w1.cell? ⟨W.heap.size, 0, none⟩ = some u := box_cell hbx rfl
  rw [HN.out] at hown
  obtain ⟨ua, uc, rfl⟩ := fam_form hown
  have HR := Hid.out (p := Hid _) (And.intro hown (And.intro (HB0.out.1.trans hb1) ht1'))
  clear hown hb1 ht1 ht1' hbx HC
  go_wp2_with fail
  go_ret
  exact ⟨_, rfl, HR.out⟩
end

section
open Go.RowKit

/-- From W to W' nothing has turned below B, and elsewhere only what N tells. -/
structure Fr (B : Nat) (N : Nat → Obj → Prop) (W W' : World) : Prop where
  below : Below B W W'
  kept : ∀ k o, W.heap[k]? = some o → ¬ N k o → W'.heap[k]? = some o
section
variable {B : Nat} {N N' : Nat → Obj → Prop} {W W' W'' : World}
theorem Fr.refl (B : Nat) (N : Nat → Obj → Prop) (W : World) : Fr B N W W := ⟨Below.refl _ _, fun _ _ h _ => h⟩
theorem Fr.trans (h : Fr B N W W') (k : Fr B N W' W'') : Fr B N W W'' := ⟨h.below.trans k.below, fun i o h1 h2 => k.kept i o (h.kept i o h1 h2) h2⟩
theorem Fr.of_below (hB : B ≤ W.heap.size) (h : Below W.heap.size W W') : Fr B N W W' := ⟨h.mono hB, fun i o h1 _ => by rw [h.block i (box_lt h1)]; exact h1⟩
theorem Fr.mono (h : Fr B N W W') (hN : ∀ k o, N k o → N' k o) : Fr B N' W W' := ⟨h.below, fun k o h1 h2 => h.kept k o h1 (fun e => h2 (hN k o e))⟩
theorem Fr.own {C : Nat} {e : TypeId} {size : Nat} {v : Value} {n : Nat} {xs : List Value} (h : W.ownsRow C e size v n xs) (hf : Fr B N W W') (hN : ∀ k c, ¬ N k (.cells c e)) : W'.ownsRow C e size v n xs := by
  refine ⟨h.1, ?_⟩
  rcases h.2 with h0 | ⟨g, cap, cur, hv, hg, hh, r⟩
  · exact Or.inl h0
  · exact Or.inr ⟨g, cap, cur, hv, hg, hf.kept g _ hh (hN g cur), r⟩
theorem Fr.qst {C : Nat} {Q : Cd} {sb mb : Nat} {v : Rp → Value} {s : Sx} (h : QSt W C Q sb mb v s) (hf : Fr B N W W') (hN : ∀ r k c, ¬ N k (.cells c (pTy Q.K r))) : QSt W' C Q sb mb v s :=
  ⟨⟨fun r => Fr.own (h.fam.own r) hf (hN r), h.fam.apart⟩, h.st, h.mem, h.box⟩
end
/-- The types of what a walk holds. -/
def wTy (t : TypeId) : Prop := t = 5 ∨ t = 126 ∨ t = 85 ∨ t = 125
/-- What a walk may turn: its own lists, and the map km. -/
def NW (km : Nat) (k : Nat) (o : Obj) : Prop := (k = km ∧ ∃ es ck, o = .map es ck) ∨ ∃ c t fz, o = .cells c t fz ∧ wTy t
theorem nw_cells {km k : Nat} {c : Array Value} {t : TypeId} (ht : ¬ wTy t) : ¬ NW km k (.cells c t) := fun h => by
  rcases h with ⟨_, es, ck, e⟩ | ⟨c', t', fz, e, h⟩
  · cases e
  · injection e with _ e2; exact ht (by rw [e2]; exact h)

/-- A walk: the program, the kind of its memory, and where its own things lie. -/
structure Wc where
  Q : Cd
  ca : Option Addr
  X : Nat → Nat → Nat → Int
  n : Nat
  m : Nat
  lk : Nat
  rg : Nat
  s0 : Sx
  B : Nat
  w0 : World
  tf : Nat
  cf : Nat
  km : Nat
  kb : Nat
  tb : Nat
  ob : Nat
abbrev Wc.mode (c : Wc) : Int := c.Q.K.mode
structure WcOk (c : Wc) : Prop where
  hM : MLaw c.Q.K
  hT : MTell c.Q.K c.tf
  hC : MClone c.Q.K c.cf
  ty : ∀ r, ¬ wTy (pTy c.Q.K r)
  nt : c.Q.nt = c.n
  n0 : 0 < c.n
  cok : COk c.n c.Q.L c.X c.m c.lk c.rg
  fits : ∀ t i, t < c.n → i < c.Q.L t → I64n (c.X t i 2)
  prog : PIn c.w0 c.ca c.n c.Q.A c.Q.L c.Q.C c.X
  tab : TabB c.B c.w0
  Bw : c.B = c.w0.heap.size
  km : c.B ≤ c.km
  kb : c.B ≤ c.kb
  tb : c.B ≤ c.tb
  ob : c.B ≤ c.ob
/-- What holds of a state that was come to as the k-th one. -/
structure StP (c : Wc) (k : Nat) (s : Sx) : Prop where
  ok : SOk c.n c.Q.L c.m c.lk c.rg c.mode s
  fell : s.fell = false
  lk : LkI s
  v : VOk s
  pr : s.prints.length ≤ 2 * k
section
variable {c : Wc} {k : Nat} {s : Sx}
theorem StP.mono (h : StP c k s) {k' : Nat} (hk : k ≤ k') : StP c k' s := ⟨h.ok, h.fell, h.lk, h.v, by have := h.pr; omega⟩
theorem StP.tok (h : StP c k s) (hc : WcOk c) (hk : k ≤ 5000) (bb : Nat) : TOk (c.Q.at bb) s where
  nt := by show c.Q.nt = _; rw [hc.nt, h.ok.ths]
  n0 := by rw [h.ok.ths]; exact hc.n0
  n4 := by rw [h.ok.ths]; exact hc.cok.n4
  pc t ht := by rw [h.ok.ths] at ht; exact Nat.le_trans (h.ok.pc t ht) (hc.cok.L4 t ht)
  rg t ht := by rw [h.ok.ths] at ht; rw [h.ok.regs t ht]; exact hc.cok.rg2
  wl t ht := by rw [h.ok.ths] at ht; exact h.ok.wlen t ht
  wk t ht x hx := by
    rw [h.ok.ths] at ht
    have h1 := (h.ok.wok t ht x hx).1
    have h2 := hc.cok.m64
    have h3 := hc.cok.lk4
    refine ⟨h1.1, ?_⟩
    have h4 := h1.2
    split at h4 <;> omega
  words := by rw [h.ok.words]; exact hc.cok.m64
  own := by rw [h.ok.own]; exact hc.cok.lk4
  pr := by have := h.pr; omega
  v := h.v
theorem StP.kok (h : StP c k s) (hc : WcOk c) (hk : k ≤ 5000) (bb : Nat) : KOk (c.Q.at bb) s where
  nt := by show c.Q.nt = _; rw [hc.nt, h.ok.ths]
  n0 := by rw [h.ok.ths]; exact hc.n0
  n4 := by rw [h.ok.ths]; exact hc.cok.n4
  rg0 t ht := by rw [h.ok.ths] at ht; rw [h.ok.regs t ht]; exact hc.cok.rg0
  rg t ht := by rw [h.ok.ths] at ht; rw [h.ok.regs t ht]; exact hc.cok.rg2
  wl t ht := by rw [h.ok.ths] at ht; exact h.ok.wlen t ht
  words := by rw [h.ok.words]; exact hc.cok.m64
  own := by rw [h.ok.own]; exact hc.cok.lk4
  pr := by have := h.pr; omega
end
/-- The text of a state. -/
def keyT (c : Wc) (s : Sx) : List UInt8 := textT (telX c.mode s)
theorem keyT_inj {c : Wc} (hc : WcOk c) {k j : Nat} {s r : Sx} (h1 : StP c k s) (h2 : StP c j r) (h : keyT c s = keyT c r) : s = r := by
  have hm : 0 ≤ c.mode := by
    cases hb : c.Q.K.bf with
    | false => rw [show c.mode = 0 from hc.hM.mode0 hb]; decide
    | true => have := hc.hM.mode1 hb; show 0 ≤ c.Q.K.mode; omega
  exact tel_inj h1.ok h2.ok hm (by rw [h1.fell, h2.fell]) (textT_inj h)
/-- What the program holds while it goes through states: K known, O open. -/
structure WkI (c : Wc) (W : World) (K O : List Sx) (os : List Nat) : Prop where
  text : ∃ bs, TxR W c.B c.tb bs
  kbox : W.heap[c.kb]? = some (.cells #[.map (some c.km)] 124)
  known : ∃ n D, n ≤ K.length ∧ W.ownsMap Tryz.prog 9 (unitElem (H := Unit)) c.km n D ∧ Maps.size D = K.length ∧ ∀ l, Maps.has D (.string l) = true ↔ ∃ s, s ∈ K ∧ keyT c s = l
  obox : ∃ v, W.heap[c.ob]? = some (.cells #[v] 125) ∧ W.ownsRow c.B 85 1 v os.length (os.map fun b => .pointer (some ⟨b, 0, none⟩))
  len : os.length = O.length
  states : ∀ i, i < O.length → ∃ mb bb C v, QSt W C (c.Q.at bb) (os.getD i 0) mb v (O.getD i default)
  ok : ∀ k, k < K.length → StP c k (K.getD k default)
  low : Below c.B c.w0 W
section
variable {c : Wc} {W W' : World} {K O : List Sx} {os : List Nat}
theorem WkI.mem (h : WkI c W K O os) {s : Sx} (hs : s ∈ K) : ∃ k, k < K.length ∧ StP c k s := by
  obtain ⟨k, hk, e⟩ := List.getElem_of_mem hs
  refine ⟨k, hk, ?_⟩
  have := h.ok k hk
  rw [List.getD_eq_getElem?_getD, List.getElem?_eq_getElem hk] at this
  rw [← e]; exact this
theorem ownsMap_kept {k : TypeId} {R : Value → Option (DataW Unit × List MemPlace)} {b n : Nat} {D : DataW Unit} (h : W.ownsMap Tryz.prog k R b n D) (hb : W'.heap[b]? = W.heap[b]?) : W'.ownsMap Tryz.prog k R b n D := by
  obtain ⟨es, clock, h1, r⟩ := h
  exact ⟨es, clock, hb.trans h1, r⟩
/-- What others turn leaves a walk's things as they were. -/
theorem WkI.kept {N : Nat → Obj → Prop} (h : WkI c W K O os) (hf : Fr c.B N W W') (h1 : ∀ k cs t, wTy t ∨ t = 124 → ¬ N k (.cells cs t)) (h2 : ∀ o, ¬ N c.km o) (h3 : ∀ r k cs, ¬ N k (.cells cs (pTy c.Q.K r))) : WkI c W' K O os := by
  refine ⟨?_, hf.kept _ _ h.kbox (h1 _ _ _ (.inr rfl)), ?_, ?_, h.len, fun i hi => ?_, h.ok, h.low.trans hf.below⟩
  · obtain ⟨bs, v, e1, e2⟩ := h.text
    exact ⟨bs, v, hf.kept _ _ e1 (h1 _ _ _ (.inl (.inr (.inl rfl)))), Fr.own e2 hf (fun k cs => h1 k cs _ (.inl (.inl rfl)))⟩
  · obtain ⟨n, D, e1, e2, e3⟩ := h.known
    refine ⟨n, D, e1, ownsMap_kept e2 ?_, e3⟩
    obtain ⟨es, clock, hb, _⟩ := e2
    rw [hb]; exact hf.kept _ _ hb (h2 _)
  · obtain ⟨v, e1, e2⟩ := h.obox
    exact ⟨v, hf.kept _ _ e1 (h1 _ _ _ (.inl (.inr (.inr (.inr rfl))))), Fr.own e2 hf (fun k cs => h1 k cs _ (.inl (.inr (.inr (.inl rfl)))))⟩
  · obtain ⟨mb, bb, C, v, hq⟩ := h.states i hi
    exact ⟨mb, bb, C, v, Fr.qst hq hf h3⟩
theorem WkI.below (hc : WcOk c) (h : WkI c W K O os) (hb : Below W.heap.size W W') : WkI c W' K O os :=
  h.kept (N := fun _ _ => False) (Fr.of_below (by rw [hc.Bw]; exact h.low.size) hb) (fun _ _ _ _ h => h) (fun _ h => h) (fun _ _ _ h => h)
end
end

end Go.Proofs.YtefnmbnakphhfadGreatDoor
