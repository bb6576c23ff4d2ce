import Derived.Test.YtelckcpjmekgcacGreatDoorWTell2
import Derived.Test.YtelckcpjmekgcacGreatDoorShelf
import Derived.Lib.OthersKept
import Derived.Lib.AppendIntMem
import Derived.Test.YtelckcpjmekgcacGreatDoorWClone2
import Derived.Maps.OwnSet
import Derived.StringKeys
import Derived.Laws.IdiomStrings
namespace Go.Proofs.YtelckcpjmekgcacGreatDoor
set_option maxHeartbeats 3200000
set_option maxRecDepth 100000
section
open Go.RowKit
theorem infoU8:(Tryz.prog.info? 5).map (fun i=>(i.zero,i.size,i.bytes))=some (some (.int .u8 0),1,1):=by kernel_rfl
abbrev TabB (B : Nat) (w : World) : Prop := Lib.TabBelow Tryz.prog B w "internal/strconv.uint64pow10" .u64 Lib.pow10Tab
structure TxR (W:World) (B tb:Nat) (bs:List UInt8):Prop where
 ex:∃ v,W.heap[tb]? = some (.cells #[v] 108)∧W.ownsRow B 5 1 v bs.length (Lib.byteCells bs)
section
variable {W W' W'':World}
theorem Txt.refl (W:World):Txt W W:=fun _ _ _ _ _ h=>h
theorem Txt.trans (h:Txt W W') (k:Txt W' W''):Txt W W'':=fun i c t h1 h2 h3=>k i c t h1 h2 (h i c t h1 h2 h3)
theorem Txt.below (h:Below W.heap.size W W'):Txt W W':=fun i c t _ _ h3=>by
 rw [h.block i (box_lt h3)]; exact h3
theorem Txt.kept (h:Lib.OthersKept 5 none W W'):Txt W W':=fun i c t h1 _ h3=>h i _ h3 (by simp) (fun c' fz e=>h1 (by injection e))
theorem Txt.set {tb:Nat} {v u:Value} (h:W.heap[tb]? = some (.cells #[v] 108)):Txt W (W.setCell ⟨tb,0,none⟩ u):=fun i c t _ h2 h3=>by
 rw [Below.heap_setCell _ _ _ _ (fun e=>h2 (by rw [show i=tb from e,h] at h3; injection (Option.some.inj h3) with _ e2; exact e2.symm))]
 exact h3
theorem Txt.grown {B:Nat} {v:Value} {n:Nat} {xs:List Value} (ho:W.ownsRow B 5 1 v n xs) (h:W.grownBy W' v.ownBlock):Txt W W':=fun i c t h1 _ h3=>by
 rw [h.block i (box_lt h3) (fun e=>own_type ho h3 (fun e'=>h1 e'.symm) e.symm)]
 exact h3
abbrev K8 (tb:Option Nat) (W W':World):Prop:=Lib.OthersKept 5 tb W W'
theorem k8_below {tb:Option Nat} (h:Below W.heap.size W W'):K8 tb W W':=fun k o h1 _ _=>by rw [h.block k (box_lt h1)]; exact h1
theorem k8_grown {tb:Option Nat} {B:Nat} {v:Value} {n:Nat} {xs:List Value} (ho:W.ownsRow B 5 1 v n xs) (h:W.grownBy W' v.ownBlock):K8 tb W W':=fun k o h1 _ h3=>by
 rw [h.block k (box_lt h1) (fun e=>?_)]
 ·exact h1
 ·rcases ho.2 with ⟨h0,_⟩ | ⟨g,cap,cur,hv,_,hh,_⟩
  ·rw [h0] at e; simp [Value.ownBlock] at e
  ·rw [hv] at e
   have:g=k:=by simpa [Value.ownBlock] using e.symm
   rw [this,h1] at hh
   exact h3 cur (0,0) (Option.some.inj hh)
theorem k8_set {tb:Nat} {u:Value}:K8 (some tb) W (W.setCell ⟨tb,0,none⟩ u):=fun k o h1 h2 _=>by
 rw [Below.heap_setCell _ _ _ _ (fun e=>h2 (congrArg some e))]
 exact h1
theorem k8_none {tb:Option Nat} (h:K8 none W W'):K8 tb W W':=fun k o h1 _ h3=>h k o h1 (by simp) h3
theorem QSt.txt {B:Nat} {Q:Cd} {sb mb:Nat} {v:Rp→Value} {s:Sx} (h:QSt W B Q sb mb v s) (hty:∀ r,pTy Q.K r≠5∧pTy Q.K r≠108) (ht:Txt W W'):QSt W' B Q sb mb v s:=by
 refine ⟨⟨fun r=>?_,h.fam.apart⟩,h.st,h.mem,h.box⟩
 have ho:=h.fam.own r
 refine ⟨ho.1,?_⟩
 rcases ho.2 with h0 | ⟨g,cap,cur,hv,hg,hh,r'⟩
 ·exact Or.inl h0
 ·exact Or.inr ⟨g,cap,cur,hv,hg,ht g cur _ (hty r).1 (hty r).2 hh,r'⟩
end
attribute [local go_sem ↓] appS_eq
theorem atext1_any (W:World) (B tb:Nat) (bs:List UInt8) (n:Int) (hT:TxR W B tb bs) (hB:B≤W.heap.size) (htb:B≤tb) (htab:TabB B W) (hn:I64n n) (hl:bs.length≤500000) :
  Calls Tryz.prog 76 #[.int .i64 n,.pointer (some ⟨tb,0,none⟩)] W fun e W'=>e=.returned (.tuple #[])∧TxR W' B tb (bs++(Lib.itoa n++[32]))∧Below B W W'∧Txt W W'∧K8 (some tb) W W':=by
 obtain ⟨v,hbx,hown⟩:=hT.ex
 have HC:=hiD (Tryz.strconv_AppendInt_10 B bs.length n hn.1 hn.2 v (Lib.byteCells bs) W hown hB (by omega) htab)
 have c0:W.cell? ⟨tb,0,none⟩=some v:=box_cell hbx rfl
 have hil:=Lib.itoa_length_le n hn.1 hn.2
 obtain ⟨a,cap,hv⟩:=fam_form hown
 have HBX:=hiD hbx
 rw [hv] at c0 HC
 obtain ⟨bl,hbl⟩:∃ k,bs.length=k:=⟨_,rfl⟩
 have HBL:Hid (bs.length=bl):=hbl
 rw [hbl] at c0 HC hl
 clear hown hv hT htab hn hbx hbl
 go_enter Tryz.func76,Tryz.ntmps76
 go_wp2_with fail
 refine Calls.mono HC.out ?_
 rintro e w1 ⟨v1,rfl,ho1,hb1,hk1⟩
 obtain ⟨a1,cap1,rfl⟩:=fam_form ho1
 obtain ⟨L,hL⟩:∃ L,bl+(Lib.itoa n).length=L:=⟨_,rfl⟩
 have HL:Hid (bl+(Lib.itoa n).length=L):=hL
 rw [hL] at ho1 ⊢
 have hLl:L≤600000:=by omega
 have hbx1:w1.heap[tb]? = some (.cells #[.slice a bl cap] 108):=by
  have:=HBX.out
  rw [show v=.slice a bl cap by have:=box_cell HBX.out (i:=0) rfl; rw [c0] at this; exact (Option.some.inj this).symm] at this
  exact hk1 tb _ this (by simp) (fun c fz e=>by injection e with _ e2; exact absurd e2 (by decide))
 have hBz:B≤w1.heap.size:=Nat.le_trans hB hb1.size
 obtain ⟨g,cap2,w3,hrun,ho3,hg3,hat⟩:=app_row (T:=108) Tryz.underlying108 infoU8 rfl (by omega) ho1 (Below.refl _ w1) hBz 1 #[.int .u8 32] rfl (by simp [Value.oneCell']) (by omega) (by omega) (by omega)
 have hba:Below w1.heap.size w1 (w1.alloc (.cells #[.int .u8 32] 5)):=(Below.refl _ _).alloc (Nat.le_refl _) _
 have hoa:(w1.alloc (.cells #[.int .u8 32] 5)).ownsRow B 5 1 (.slice a1 L cap1) L (Lib.byteCells bs++Lib.byteCells (Lib.itoa n)):=ho1.alloc _
 have ht3:Txt w1 w3:=(Txt.below hba).trans (Txt.grown hoa hg3)
 have hbxa:(w1.alloc (.cells #[.int .u8 32] 5)).heap[tb]? = some (.cells #[.slice a bl cap] 108):=(hba.block tb (box_lt hbx1)).trans hbx1
 have hbx3:w3.heap[tb]? = some (.cells #[.slice a bl cap] 108):=(hg3.block tb (box_lt hbxa) (fun e=>own_type hoa hbxa (by decide) e.symm)).trans hbxa
 have hb3:Below B w1 w3:=((Below.refl B w1).alloc hBz _).grown hg3 (by simp; omega) (fun k hk=>(ho1.lt k hk).1)
 have u0:w3.cell? ⟨tb,0,none⟩=some (.slice a bl cap):=box_cell hbx3 rfl
 have uf:w3.frozen? ⟨tb,0,none⟩=false:=box_free hbx3
 have ltb:=box_lt hbx1
 have HR:Hid (TxR (w3.setCell ⟨tb,0,none⟩ (.slice (some ⟨g,0,none⟩) (L+1) cap2)) B tb (bs++(Lib.itoa n++[32]))∧Below B W (w3.setCell ⟨tb,0,none⟩ (.slice (some ⟨g,0,none⟩) (L+1) cap2))∧Txt W (w3.setCell ⟨tb,0,none⟩ (.slice (some ⟨g,0,none⟩) (L+1) cap2))∧K8 (some tb) W (w3.setCell ⟨tb,0,none⟩ (.slice (some ⟨g,0,none⟩) (L+1) cap2))):=by
  refine ⟨⟨_,(heap_set_same hbx3).trans rfl,?_⟩,((hb1.trans hb3).setCell htb _),((Txt.kept hk1).trans ht3).trans (Txt.set hbx3),(((k8_none hk1).trans (k8_below hba)).trans (k8_grown hoa hg3)).trans k8_set⟩
  have e1:(bs++(Lib.itoa n++[32])).length=L+1:=by
   have h1:=HL.out
   have h2:=HBL.out
   simp only [List.length_append,List.length_singleton]
   omega
  have e2:Lib.byteCells (bs++(Lib.itoa n++[32]))=Lib.byteCells bs++Lib.byteCells (Lib.itoa n)++#[Value.int .u8 32].toList:=by simp [Lib.byteCells]
  rw [e1,e2]
  exact fam_keeps ho3 (fun k hk=>Below.heap_setCell _ _ _ _ (fun e=>own_type ho3 hbx3 (by decide) (by rw [hk]; exact congrArg some e)))
 clear hk1 ho1 hb1 hbx1 hbx3 hbxa hoa ho3 hg3 hat hba ht3 hb3 HC HBX HL hL
 go_wp2
 all_goals go_end0
 all_goals exact ⟨rfl,HR.out⟩
def TxI (B tb:Nat) (W0:World) (xs:List Int) (V:World):Prop:=TxR V B tb (textT xs)∧Below B W0 V∧Txt W0 V∧(∀ x,x∈xs→I64n x)∧K8 (some tb) W0 V
theorem txi_ear {B tb:Nat} {W0:World} {Q:Cd} {sb mb Bs:Nat} {v:Rp→Value} {s:Sx} (hs:QSt W0 Bs Q sb mb v s) (hty:∀ r,pTy Q.K r≠5∧pTy Q.K r≠108) (hB:B≤W0.heap.size) (htb:B≤tb) (htab:TabB B W0):Ear 76 #[.pointer (some ⟨tb,0,none⟩)] Bs Q sb mb v s (TxI B tb W0) where
 fn xs w:=by kernel_rfl
 st xs W h:=hs.txt hty h.2.2.1
 more xs W W' h hb:=by
  obtain ⟨⟨v,h1,h2⟩,h3,h4,h5,h6⟩:=h
  exact ⟨⟨v,(hb.block _ (box_lt h1)).trans h1,fam_keeps h2 (fun g hg=>hb.block g (h2.lt g hg).2)⟩,h3.trans (hb.mono (Nat.le_trans hB h3.size)),h4.trans (Txt.below hb),h5,h6.trans (k8_below hb)⟩
 tell xs W n hn hl h:=by
  obtain ⟨h1,h3,h4,h5,h6⟩:=h
  refine (atext1_any W B tb (textT xs) n h1 (Nat.le_trans hB h3.size) htb (htab.on h3) hn (by have:=textT_len h5; omega)).mono fun e W' g=>⟨g.1,⟨by rw [textT_snoc]; exact g.2.1,h3.trans g.2.2.1,h4.trans g.2.2.2.1,fun x hx=>?_,h6.trans g.2.2.2.2⟩,g.2.2.2.1⟩
  rcases List.mem_append.mp hx with hx | hx
  ·exact h5 x hx
  ·rw [List.mem_singleton.mp hx]; exact hn
theorem atext_any (W:World) (B:Nat) (a:Option Addr) (cap:Nat) (Q:Cd) (sb mb Bs:Nat) (v:Rp→Value) (s:Sx) (tf:Nat) (hs:QSt W Bs Q sb mb v s) (hty:∀ r,pTy Q.K r≠5∧pTy Q.K r≠108) (hT:MTell Q.K tf) (ho:TOk Q s) (hB:B≤W.heap.size) (htab:TabB B W) (hrow:W.ownsRow B 5 1 (.slice a 0 cap) 0 []) :
  Calls Tryz.prog 46 #[.slice a 0 cap,.pointer (some ⟨sb,0,none⟩)] W fun e W'=>∃ u,e=.returned u∧W'.ownsRow B 5 1 u (textT (telX Q.K.mode s)).length (Lib.byteCells (textT (telX Q.K.mode s)))∧Below B W W'∧K8 none W W':=by
 obtain ⟨W0,hW0⟩:∃ V,V=W.alloc (.cells #[.slice a 0 cap] 108):=⟨_,rfl⟩
 have hb0:Below W.heap.size W W0:=by rw [hW0]; exact (Below.refl _ _).alloc (Nat.le_refl _) _
 have hE:=txi_ear (B:=B) (tb:=W.heap.size) (W0:=W0) (hs.below hb0) hty (Nat.le_trans hB hb0.size) hB (fun V hV=>htab V ((hb0.mono hB).trans hV))
 have h0:TxI B W.heap.size W0 [] W0:=by
  refine ⟨⟨_,by rw [hW0]; exact heap_alloc_new _ _,?_⟩,Below.refl _ _,Txt.refl _,(fun x hx=>by cases hx),Lib.OthersKept.refl _ _ _⟩
  rw [hW0]
  exact hrow.alloc _
 have HC:=hiD (stell_any W0 _ _ Bs Q sb mb v s _ hE tf hT ho h0)
 have HW0:Hid (W.alloc (.cells #[.slice a 0 cap] 108)=W0):=hW0.symm
 have HB0:Hid (Below B W W0∧K8 none W W0):=⟨hb0.mono hB,k8_below hb0⟩
 obtain ⟨n,hn⟩:∃ n,(textT (telX Q.K.mode s)).length=n:=⟨_,rfl⟩
 have HN:Hid ((textT (telX Q.K.mode s)).length=n):=hn
 rw [hn]
 clear hW0 hb0 hE h0 hs hT ho htab hrow hn
 go_enter Tryz.func46,Tryz.ntmps46
 go_wp2_with fail
 rw [HW0.out]
 refine Calls.mono HC.out ?_
 rintro e w1 ⟨rfl,h1⟩
 obtain ⟨⟨u,hbx,hown⟩,hb1,_,_,ht1⟩:=h1
 have ht1':K8 none W w1:=fun k o h1 _ h3=>ht1 k o (HB0.out.2 k o h1 (by simp) h3) (fun e=>by have:=box_lt h1; injection e with e; omega) h3
 have c0:w1.cell? ⟨W.heap.size,0,none⟩=some u:=box_cell hbx rfl
 rw [HN.out] at hown
 obtain ⟨ua,uc,rfl⟩:=fam_form hown
 have HR:=hiD (And.intro hown (And.intro (HB0.out.1.trans hb1) ht1'))
 clear hown hb1 ht1 ht1' hbx HC
 go_wp2_with fail
 go_ret
 exact ⟨_,rfl,HR.out⟩
end
section
open Go.RowKit
def ctN (s:Sx) (j:Nat):Rp→Nat
 | .thr=>s.ths.length
 | .regs t=>if t < j then (thOf s t).regs.length else 0
 | _=>0
def ctC (Q:Cd) (v:Rp→Value) (s:Sx) (u:Rp→Value) (j t i:Nat):Value:=if i=0 then .slice (Q.A t) (Q.L t) (Q.C t) else if i=1 then .int .i64 (thOf s t).pc else if t < j then u (.regs t) else v (.regs t)
def ctX (Q:Cd) (v:Rp→Value) (s:Sx) (u:Rp→Value) (j:Nat):Rp→List Value
 | .thr=>rows3 s.ths.length (ctC Q v s u j)
 | .regs t=>if t < j then intsV (thOf s t).regs else []
 | _=>[]
structure ClT (w wr:World) (Q:Cd) (v:Rp→Value) (s:Sx) (u:Rp→Value) (j:Nat):Prop where
 fam:Fam wr w.heap.size (pTy Q.K) pSz u (ctN s j) (ctX Q v s u j)
 nils:∀ r,r≠.thr→(∀ t,t < j→r≠.regs t)→u r=nilV
 below:Below w.heap.size w wr
section
variable {w wr w1:World} {B:Nat} {Q:Cd} {sb mb:Nat} {v u:Rp→Value} {s:Sx} {j:Nat}
theorem ClT.start {x:Value} (hx:wr.ownsRow w.heap.size (pTy Q.K .thr) 3 x s.ths.length (rows3 s.ths.length (pthC Q v s))) (hb:Below w.heap.size w wr):ClT w wr Q v s (fun r=>if r=.thr then x else nilV) 0:=by
 refine ⟨⟨fun r=>?_,fun r q g hr hq=>?_⟩,fun r hr _=>if_neg hr,hb⟩
 ·cases r with
  | thr =>
   have e:ctX Q v s (fun r=>if r=.thr then x else nilV) 0 .thr=rows3 s.ths.length (pthC Q v s):=by
    refine rows3_congr fun t i _=>?_
    unfold ctC pthC
    simp
   rw [e]
   exact hx
  | regs t =>
   have e1:ctN s 0 (.regs t)=0:=by simp [ctN]
   have e2:ctX Q v s (fun r=>if r=.thr then x else nilV) 0 (.regs t)=[]:=by simp [ctX]
   rw [e1,e2]
   exact World.ownsRow_nil _ _ _ _
  | _=>exact World.ownsRow_nil _ _ _ _
 ·have key:∀ y:Rp,((if y=.thr then x else nilV:Value)).ownBlock=some g→y=.thr:=fun y hy=>by
   by_cases e:y=.thr
   ·exact e
   ·rw [if_neg e] at hy; simp [Value.ownBlock] at hy
  rw [key r hr,key q hq]
theorem ClT.next (h:ClT w wr Q v s u j) {g:Nat} (hg:(u .thr).ownBlock=some g) {x:Value} (hrow:w1.ownsRow wr.heap.size 3 1 x (thOf s j).regs.length (intsV (thOf s j).regs)) (hb:Below wr.heap.size wr w1):ClT w (w1.setCell ⟨g,j*3+2,none⟩ x) Q v s (upd u (.regs j) x) (j+1):=by
 have h0:u (.regs j)=nilV:=h.nils _ (by simp) (fun t ht e=>by injection e with e; omega)
 have hgl:w.heap.size≤g:=h.fam.low _ g hg
 refine ⟨h.fam.copied (r:=.regs j) (p:=.thr) h.below.size (by simp) (by rw [h0]; rfl) hrow hb hg ?_ ?_ (fun q hq=>?_) ?_ (fun q h1 h2=>?_),fun r h1 h2=>?_,(h.below.trans (hb.mono h.below.size)).setCell hgl _⟩
 ·show (if j < j+1 then _ else 0)=_
  rw [if_pos (by omega)]
 ·show (if j < j+1 then _ else [])=_
  rw [if_pos (by omega)]
 ·cases q with
  | regs t =>
   have hne:t≠j:=fun e=>hq (by rw [e])
   show (if t < j+1 then _ else 0)=if t < j then _ else 0
   by_cases h3:t < j
   ·rw [if_pos h3,if_pos (by omega)]
   ·rw [if_neg h3,if_neg (by omega)]
  | _=>rfl
 ·refine rows3_set (by omega) ?_ ?_
  ·unfold ctC
   rw [if_neg (by omega),if_neg (by omega),if_pos (by omega),upd_self]
  ·intro a b hb3 hab
   unfold ctC
   by_cases h1:b=0
   ·rw [if_pos h1,if_pos h1]
   ·rw [if_neg h1,if_neg h1]
    by_cases h2:b=1
    ·rw [if_pos h2,if_pos h2]
    ·rw [if_neg h2,if_neg h2]
     have hne:a≠j:=fun e=>hab ⟨e,by omega⟩
     rw [upd_ne _ _ (by intro e; injection e with e; exact hne e)]
     by_cases h3:a < j
     ·rw [if_pos h3,if_pos (by omega)]
     ·rw [if_neg h3,if_neg (by omega)]
 ·cases q with
  | thr=>exact absurd rfl h2
  | regs t =>
   have hne:t≠j:=fun e=>h1 (by rw [e])
   show (if t < j+1 then _ else [])=if t < j then _ else []
   by_cases h3:t < j
   ·rw [if_pos h3,if_pos (by omega)]
   ·rw [if_neg h3,if_neg (by omega)]
  | _=>rfl
 ·rw [upd_ne _ _ (h2 j (by omega))]
  exact h.nils r h1 (fun t ht=>h2 t (by omega))
end
theorem thOf_outR {s:Sx} {t:Nat} (h:s.ths.length≤t):(thOf s t).regs=[]:=by
 unfold thOf
 rw [List.getD_eq_getElem?_getD,List.getElem?_eq_none h]
 rfl
def c1V (sb:Nat) (u vm:Rp→Value) (pv:Value):Rp→Value
 | .st=>boxV sb
 | .thr=>u .thr
 | .regs t=>u (.regs t)
 | .prints=>pv
 | r=>vm r
theorem c1V_mem {sb:Nat} {u vm:Rp→Value} {pv:Value} {r:Rp} (h:r.isMem=true):c1V sb u vm pv r=vm r:=by
 cases r <;> first | rfl | cases h
theorem ClT.c {w w2 w3 w4:World} {Q:Cd} {v u vm:Rp→Value} {s:Sx} {mb bb:Nat} {pv:Value} (h:ClT w w2 Q v s u s.ths.length) (hM:MemC w2 w3 (Q.at bb) mb vm s) (hp:w4.ownsRow w3.heap.size 3 1 pv s.prints.length (intsV s.prints)) (hb:Below w3.heap.size w3 w4) :
  QSt (w4.alloc (.cells #[.iface Q.K.tid (.pointer (some ⟨(Q.at bb).top mb,0,none⟩)),u .thr,pv] 100)) w.heap.size (Q.at bb) w4.heap.size mb (c1V w4.heap.size u vm pv) s:=by
 have hz:=h.below.size
 have h3:=hM.below.size
 have h4:=hb.size
 have hu:∀ r k,(u r).ownBlock=some k→k < w2.heap.size:=fun r k e=>h.fam.lt e
 have hm:∀ r,r.isMem=true→∀ k,(vm r).ownBlock=some k→w2.heap.size≤k∧k < w3.heap.size:=fun r hr k e=>(hM.own r hr).lt k e
 have hpl:∀ k,pv.ownBlock=some k→w3.heap.size≤k∧k < w4.heap.size:=fun k e=>hp.lt k e
 have keep:∀ r,(w4.alloc (.cells #[.iface Q.K.tid (.pointer (some ⟨(Q.at bb).top mb,0,none⟩)),u .thr,pv] 100)).ownsRow w.heap.size (pTy Q.K r) (pSz r) (u r) (ctN s s.ths.length r) (ctX Q v s u s.ths.length r):=fun r =>
  (fam_keeps (h.fam.own r) (fun g hg=>(hb.block g (Nat.lt_of_lt_of_le (h.fam.lt hg) h3)).trans (hM.below.block g (h.fam.lt hg)))).alloc _
 refine ⟨⟨fun r=>?_,fun r q k h1 h2=>?_⟩,rfl,?_,fun hbf=>?_⟩
 ·by_cases hr:r.isMem=true
  ·have e1:pX (Q.at bb) mb (c1V w4.heap.size u vm pv) s r=pX (Q.at bb) mb vm s r:=by
    cases r <;> first | rfl | cases hr
   rw [e1,c1V_mem hr]
   exact (fam_keeps (own_low (hM.own r hr) hz) (fun g hg=>hb.block g (hm r hr g hg).2)).alloc _
  ·cases r with
   | st=>exact fam_box (xs:=[.iface Q.K.tid (.pointer (some ⟨(Q.at bb).top mb,0,none⟩)),u .thr,pv]) (by omega) (heap_alloc_new _ _)
   | thr =>
    have e:pX (Q.at bb) mb (c1V w4.heap.size u vm pv) s .thr=ctX Q v s u s.ths.length .thr:=by
     refine rows3_congr fun t i ht=>?_
     unfold ctC pthC
     by_cases h1:i=0
     ·rw [if_pos h1,if_pos h1]; rfl
     ·rw [if_neg h1,if_neg h1]
      by_cases h2:i=1
      ·rw [if_pos h2,if_pos h2]
      ·rw [if_neg h2,if_neg h2,if_pos ht]; rfl
    rw [e]
    exact keep .thr
   | regs t =>
    have e1:pN (Q.at bb) s (.regs t)=ctN s s.ths.length (.regs t):=by
     show (thOf s t).regs.length=if t < s.ths.length then (thOf s t).regs.length else 0
     by_cases ht:t < s.ths.length
     ·rw [if_pos ht]
     ·rw [if_neg ht,thOf_outR (by omega)]; rfl
    have e2:pX (Q.at bb) mb (c1V w4.heap.size u vm pv) s (.regs t)=ctX Q v s u s.ths.length (.regs t):=by
     show intsV (thOf s t).regs=if t < s.ths.length then intsV (thOf s t).regs else []
     by_cases ht:t < s.ths.length
     ·rw [if_pos ht]
     ·rw [if_neg ht,thOf_outR (by omega)]; rfl
    rw [e1,e2]
    exact keep (.regs t)
   | prints=>exact (own_low hp (by omega)).alloc _
   | _=>exact absurd rfl hr
 ·have key:∀ r,(c1V w4.heap.size u vm pv r).ownBlock=some k→(r=.st∧k=w4.heap.size)∨(r=.prints∧pv.ownBlock=some k)∨(r.isMem=true∧(vm r).ownBlock=some k)∨((u r).ownBlock=some k):=fun r e=>by
   by_cases hr:r.isMem=true
   ·rw [c1V_mem hr] at e
    exact .inr (.inr (.inl ⟨hr,e⟩))
   ·cases r with
    | st=>exact .inl ⟨rfl,by simpa [c1V,Value.ownBlock] using e.symm⟩
    | prints=>exact .inr (.inl ⟨rfl,e⟩)
    | thr=>exact .inr (.inr (.inr e))
    | regs t=>exact .inr (.inr (.inr e))
    | _=>exact absurd rfl hr
  rcases key r h1 with ⟨rfl,e1⟩ | ⟨rfl,e1⟩ | ⟨m1,e1⟩ | e1 <;> rcases key q h2 with ⟨rfl,e2⟩ | ⟨rfl,e2⟩ | ⟨m2,e2⟩ | e2
  all_goals first
   | rfl
   | (exfalso; have:=hpl _ e1; omega)
   | (exfalso; have:=hpl _ e2; omega)
   | exact hM.apart r q k m1 m2 e1 e2
   | exact h.fam.apart r q k e1 e2
   | (exfalso; have:=hm _ m1 _ e1; omega)
   | (exfalso; have:=hm _ m2 _ e2; omega)
   | (exfalso; have:=hu _ _ e1; omega)
   | (exfalso; have:=hu _ _ e2; omega)
   | (exfalso; have:=hpl _ e1; have:=hm _ m2 _ e2; omega)
   | (exfalso; have:=hpl _ e2; have:=hm _ m1 _ e1; omega)
   | (exfalso; have:=hpl _ e1; have:=hu _ _ e2; omega)
   | (exfalso; have:=hpl _ e2; have:=hu _ _ e1; omega)
   | (exfalso; have:=hm _ m1 _ e1; have:=hu _ _ e2; omega)
   | (exfalso; have:=hm _ m2 _ e2; have:=hu _ _ e1; omega)
 ·show vm .mem=boxV mb
  exact hM.mem
 ·show vm .box=boxV (Q.at bb).bb
  exact hM.box hbf
theorem sclone_any (w:World) (B:Nat) (Q:Cd) (sb mb:Nat) (v:Rp→Value) (s:Sx) (cf:Nat) (hC:MClone Q.K cf) (hs:QSt w B Q sb mb v s) (ho:KOk Q s) :
  Calls Tryz.prog 79 #[.pointer (some ⟨sb,0,none⟩)] w fun e w'=>∃ sb' mb' bb' v',e=.returned (.pointer (some ⟨sb',0,none⟩))∧QSt w' w.heap.size (Q.at bb') sb' mb' v' s∧Below w.heap.size w w':=by
 obtain ⟨tb,tc,hth,htb,_⟩:=hs.blk .thr (by show 0 < s.ths.length; exact ho.n0)
 change v .thr=.slice (some ⟨tb,0,none⟩) s.ths.length tc at hth
 have c1:=hs.c1
 rw [hth] at c1
 have c0:=hs.c0
 obtain ⟨pa,pc,hpv⟩:=hs.form .prints
 change v .prints=.slice pa s.prints.length pc at hpv
 have c2:=hs.c2
 rw [hpv] at c2
 have hn4:=ho.n4
 have hn0:=ho.n0
 have mC:=hC.mClone
 have kC:=hC.cClone
 have HC1:Hid (Calls Tryz.prog 111 #[.slice (some ⟨tb,0,none⟩) s.ths.length tc] w fun e w'=>∃ g c',e=.returned (.slice (some ⟨g,0,none⟩) s.ths.length c')∧Hid (ClT w w' Q v s (fun r=>if r=.thr then .slice (some ⟨g,0,none⟩) s.ths.length c' else nilV) 0)):=by
  have h1:=hs.fam.own .thr
  rw [hth] at h1
  refine (cloneT_any w B _ _ _ h1 (fun y hy=>?_) (by show s.ths.length≤_; omega)).mono fun e w' ⟨x,he,hx,hbx⟩=>?_
  ·obtain ⟨i,_,rfl⟩:=List.mem_map.mp hy
   unfold pthC
   split
   ·rfl
   ·split
    ·rfl
    ·obtain ⟨a,c,e⟩:=hs.form (.regs (i/3))
     rw [e]; rfl
  ·obtain ⟨g,cap,rfl,_,_,_⟩:=fam_block hx hn0
   exact ⟨g,cap,he,ClT.start hx hbx⟩
 have HC2:Hid (∀ W t,t < s.ths.length→Below w.heap.size w W→∃ qa qk qc,v (.regs t)=.slice qa qk qc∧Hid (Calls Tryz.prog 48 #[.slice qa qk qc] W fun e w'=>∃ a' k' c',e=.returned (.slice a' k' c')∧w'.ownsRow W.heap.size 3 1 (.slice a' k' c') (thOf s t).regs.length (intsV (thOf s t).regs)∧Below W.heap.size W w')):=fun W t ht hbw=>by
  obtain ⟨a,c,e⟩:=hs.form (.regs t)
  have h1:=(hs.below hbw).fam.own (.regs t)
  rw [e] at h1
  exact ⟨a,_,c,e,(cloneI_row W B a c (thOf s t).regs h1 (by have:=ho.rg t ht; omega)).mono fun e w' ⟨a',c',he,hx,hbx⟩=>⟨a',_,c',he,hx,hbx⟩⟩
 have HC3:Hid (∀ W,Below w.heap.size w W→Calls Tryz.prog cf #[.pointer (some ⟨Q.top mb,0,none⟩)] W fun e w'=>∃ mb' bb' vm,e=.returned (.iface Q.K.tid (.pointer (some ⟨(Q.at bb').top mb',0,none⟩)))∧MemC W w' (Q.at bb') mb' vm s):=fun W hbw=>hC.clone W B Q sb mb v s rfl (hs.below hbw) ho
 have HC4:Hid (∀ W,Below w.heap.size w W→Calls Tryz.prog 48 #[.slice pa s.prints.length pc] W fun e w'=>∃ a' c',e=.returned (.slice a' s.prints.length c')∧w'.ownsRow W.heap.size 3 1 (.slice a' s.prints.length c') s.prints.length (intsV s.prints)∧Below W.heap.size W w'):=fun W hbw=>by
  have h1:=(hs.below hbw).fam.own .prints
  rw [hpv] at h1
  exact cloneI_row W B pa pc s.prints h1 (by have:=ho.pr; omega)
 obtain ⟨n,hn⟩:∃ n,s.ths.length=n:=⟨_,rfl⟩
 have HN:Hid (s.ths.length=n):=hn
 rw [hn] at c1 HC1 HC2 hn0 hn4
 have HFIN:Hid (∀ W w2 w3 w4 u mb' bb' vm pv,ClT w w2 Q v s u n→W.heap=w2.heap→W.os=w2.os→W.tape=w2.tape→W.output=w2.output→MemC W w3 (Q.at bb') mb' vm s→w4.ownsRow w3.heap.size 3 1 pv s.prints.length (intsV s.prints)→Below w3.heap.size w3 w4→QSt (w4.alloc (.cells #[.iface Q.K.tid (.pointer (some ⟨(Q.at bb').top mb',0,none⟩)),u .thr,pv] 100)) w.heap.size (Q.at bb') w4.heap.size mb' (c1V w4.heap.size u vm pv) s):=fun W w2 w3 w4 u mb' bb' vm pv h1 he he1 he2 he3 h2 h3 h4=>by
  have h1':ClT w w2 Q v s u s.ths.length:=by rw [HN.out]; exact h1
  have hM:MemC w2 w3 (Q.at bb') mb' vm s:=⟨fun r hr=>by have:=h2.own r hr; rw [he] at this; exact this,h2.apart,h2.mem,h2.box,⟨h2.below.os.trans he1,h2.below.tape.trans he2,h2.below.output.trans he3,by rw [← he]; exact h2.below.size,fun k hk=>by rw [← he]; exact h2.below.block k (by rw [he]; exact hk)⟩⟩
  exact h1'.c hM h3 h4
 have HCEL:Hid (∀ W u j g c',ClT w W Q v s u j→u .thr=.slice (some ⟨g,0,none⟩) n c'→j < n→W.cell? ⟨g,j*3+2,none⟩=some (v (.regs j))∧W.frozen? ⟨g,j*3+2,none⟩=false):=fun W u j g c' h e hj=>by
  have hg:(u .thr).ownBlock=some g:=by rw [e]; rfl
  refine ⟨h.fam.cell hg ?_,h.fam.frozen hg _⟩
  refine (rows3_get (by rw [HN.out]; exact hj) (by omega)).trans ?_
  unfold ctC
  rw [if_neg (by omega),if_neg (by omega),if_neg (by omega)]
 obtain ⟨pl,hpl⟩:∃ k,s.prints.length=k:=⟨_,rfl⟩
 rw [hpl] at c2 HC4 HFIN
 clear hs hth htb hC ho hn hpv hpl
 go_enter Tryz.func79,Tryz.ntmps79
 go_wp2_with fail
 refine Calls.mono HC1.out ?_
 rintro e w1 ⟨g,cc,rfl,HB⟩
 clear HC1 c1
 go_wp2_with fail
 go_loopw [12] (fun i wr=>∃ (j:Nat) (u:Rp→Value),j≤n∧i=.int .i64 j∧Hid (ClT w wr Q v s u j∧u .thr=.slice (some ⟨g,0,none⟩) n cc)) (fun i _=>n - (intOf i).toNat)
 case atStart=>exact ⟨0,_,Nat.zero_le _,rfl,HB.out,rfl⟩
 case round =>
  obtain ⟨j,u,hj,rfl,HJ⟩:=hrel
  clear HB
  by_cases hlt:j < n
  ·obtain ⟨ce,cf'⟩:=HCEL.out _ _ _ _ _ HJ.out.1 HJ.out.2 hlt
   obtain ⟨qa,qk,qc,eq,HC5⟩:=HC2.out wr j hlt HJ.out.1.below
   rw [eq] at ce
   clear eq
   go_wp2_with fail
   refine Calls.mono HC5.out ?_
   rintro e w2 ⟨a2,k2,c2',rfl,hr2,hb2⟩
   have ce2:=(hb2.cell (lt_of_cell ce)).trans ce
   have cf2:w2.frozen? ⟨g,j*3+2,none⟩=false:=(hb2.frozen (p:=⟨g,j*3+2,none⟩) (lt_of_cell ce)).trans cf'
   have HN2:Hid (ClT w (w2.setCell ⟨g,j*3+2,none⟩ (.slice a2 k2 c2')) Q v s (upd u (.regs j) (.slice a2 k2 c2')) (j+1)∧upd u (.regs j) (.slice a2 k2 c2') .thr=.slice (some ⟨g,0,none⟩) n cc) :=
    ⟨HJ.out.1.next (by rw [HJ.out.2]; rfl) hr2 hb2,by rw [upd_ne _ _ (by simp)]; exact HJ.out.2⟩
   clear HC5 hr2 hb2 HJ ce cf'
   go_wp2_with fail
   go_roundw
   case rel=>exact ⟨j+1,_,by omega,by go_num,HN2⟩
   case measure=>simp [intOf]; omega
  ·obtain rfl:j=n:=by omega
   have hbr:=HJ.out.1.below
   have d0:=(hbr.cell (lt_of_cell c0)).trans c0
   have d2:=(hbr.cell (lt_of_cell c2)).trans c2
   go_wp2_with fail
   go_region_held3 (fun w'=>w'.cell? ⟨sb,0,none⟩=some (.iface Q.K.tid (.pointer (some ⟨Q.top mb,0,none⟩)))∧w'.cell? ⟨sb,2,none⟩=some (.slice pa pl pc)) (refine ⟨?_,?_⟩ <;> (repeat (first | assumption | refine cell_drw ?_ | refine cell_up ?_ _))) (first | ((with_reducible show Calls _ cf _ _ _); refine Calls.mono (HC3.out _ (by repeat (first | assumption | refine Below.drew ?_))) ?_; rintro e w3 ⟨mb',bb',vm,rfl,hM⟩; have z0:w3.cell? ⟨sb,0,none⟩=some (.iface Q.K.tid (.pointer (some ⟨Q.top mb,0,none⟩))):=(hM.below.cell (p:=⟨sb,0,none⟩) (lt_of_cell d0)).trans d0; have z2:w3.cell? ⟨sb,2,none⟩=some (.slice pa pl pc):=(hM.below.cell (p:=⟨sb,2,none⟩) (lt_of_cell d2)).trans d2; have hB3:Below w.heap.size w w3:=hbr.trans ⟨hM.below.os,hM.below.tape,hM.below.output,hM.below.size,fun q hq=>hM.below.block q (Nat.lt_of_lt_of_le hq hbr.size)⟩; have HM:=hiD hM; clear hM) | (go_at_call 48; refine Calls.mono (HC4.out _ (by repeat (first | assumption | refine Below.drew ?_))) ?_; rintro e w4 ⟨a4,c4,rfl,ho4,hb4⟩; have y0:w4.cell? ⟨sb,0,none⟩=some (.iface Q.K.tid (.pointer (some ⟨Q.top mb,0,none⟩))):=(hb4.cell (p:=⟨sb,0,none⟩) (lt_of_cell z0)).trans z0; have y2:w4.cell? ⟨sb,2,none⟩=some (.slice pa pl pc):=(hb4.cell (p:=⟨sb,2,none⟩) (lt_of_cell z2)).trans z2; have hB4:Below w.heap.size w w4:=hB3.trans (hb4.mono hB3.size); have HO4:=hiD (And.intro ho4 hb4); clear ho4 hb4))
   all_goals go_wp2
   all_goals go_ret
   all_goals refine ⟨w4.heap.size,mb',bb',c1V w4.heap.size u vm (.slice a4 pl c4),rfl,?_,hB4.alloc hB4.size _⟩
   all_goals have hfin:=HFIN.out wr.drew wr w3 w4 u mb' bb' vm _ HJ.out.1 rfl rfl rfl rfl HM.out HO4.out.1 HO4.out.2
   all_goals rw [HJ.out.2] at hfin
   all_goals exact hfin
end
section
open Go.RowKit
structure Fr (B:Nat) (N:Nat→Obj→Prop) (W W':World):Prop where
 below:Below B W W'
 kept:∀ k o,W.heap[k]? = some o→¬ N k o→W'.heap[k]? = some o
section
variable {B:Nat} {N N':Nat→Obj→Prop} {W W' W'':World}
theorem Fr.trans (h:Fr B N W W') (k:Fr B N W' W''):Fr B N W W'':=⟨h.below.trans k.below,fun i o h1 h2=>k.kept i o (h.kept i o h1 h2) h2⟩
theorem Fr.of_below (hB:B≤W.heap.size) (h:Below W.heap.size W W'):Fr B N W W':=⟨h.mono hB,fun i o h1 _=>by rw [h.block i (box_lt h1)]; exact h1⟩
theorem Fr.mono (h:Fr B N W W') (hN:∀ k o,N k o→N' k o):Fr B N' W W':=⟨h.below,fun k o h1 h2=>h.kept k o h1 (fun e=>h2 (hN k o e))⟩
theorem Fr.own {C:Nat} {e:TypeId} {size:Nat} {v:Value} {n:Nat} {xs:List Value} (h:W.ownsRow C e size v n xs) (hf:Fr B N W W') (hN:∀ k c,¬ N k (.cells c e)):W'.ownsRow C e size v n xs:=by
 refine ⟨h.1,?_⟩
 rcases h.2 with h0 | ⟨g,cap,cur,hv,hg,hh,r⟩
 ·exact Or.inl h0
 ·exact Or.inr ⟨g,cap,cur,hv,hg,hf.kept g _ hh (hN g cur),r⟩
theorem Fr.qst {C:Nat} {Q:Cd} {sb mb:Nat} {v:Rp→Value} {s:Sx} (h:QSt W C Q sb mb v s) (hf:Fr B N W W') (hN:∀ r k c,¬ N k (.cells c (pTy Q.K r))):QSt W' C Q sb mb v s :=
 ⟨⟨fun r=>Fr.own (h.fam.own r) hf (hN r),h.fam.apart⟩,h.st,h.mem,h.box⟩
end
def wTy (t:TypeId):Prop:=t=5∨t=108∨t=54∨t=107
def NW (km:Nat) (k:Nat) (o:Obj):Prop:=(k=km∧∃ es ck,o=.map es ck)∨∃ c t fz,o=.cells c t fz∧wTy t
theorem nw_cells {km k:Nat} {c:Array Value} {t:TypeId} (ht:¬ wTy t):¬ NW km k (.cells c t):=fun h=>by
 rcases h with ⟨_,es,ck,e⟩ | ⟨c',t',fz,e,h⟩
 ·cases e
 ·injection e with _ e2; exact ht (by rw [e2]; exact h)
structure Wc where
 Q:Cd
 ca:Option Addr
 X:Nat→Nat→Nat→Int
 n:Nat
 m:Nat
 lk:Nat
 rg:Nat
 s0:Sx
 B:Nat
 w0:World
 tf:Nat
 cf:Nat
 km:Nat
 kb:Nat
 tb:Nat
 ob:Nat
abbrev Wc.mode (c:Wc):Int:=c.Q.K.mode
structure WcOk (c:Wc):Prop where
 hM:MLaw c.Q.K
 hT:MTell c.Q.K c.tf
 hC:MClone c.Q.K c.cf
 ty:∀ r,¬ wTy (pTy c.Q.K r)
 nt:c.Q.nt=c.n
 n0:0 < c.n
 cok:COk c.n c.Q.L c.X c.m c.lk c.rg
 fits:∀ t i,t < c.n→i < c.Q.L t→I64n (c.X t i 2)
 prog:PIn c.w0 c.ca c.n c.Q.A c.Q.L c.Q.C c.X
 tab:TabB c.B c.w0
 Bw:c.B=c.w0.heap.size
 km:c.B≤c.km
 kb:c.B≤c.kb
 tb:c.B≤c.tb
 ob:c.B≤c.ob
structure StP (c:Wc) (k:Nat) (s:Sx):Prop where
 ok:SOk c.n c.Q.L c.m c.lk c.rg c.mode s
 fell:s.fell=false
 lk:LkI s
 v:VOk s
 pr:s.prints.length≤2*k
section
variable {c:Wc} {k:Nat} {s:Sx}
theorem StP.mono (h:StP c k s) {k':Nat} (hk:k≤k'):StP c k' s:=⟨h.ok,h.fell,h.lk,h.v,by have:=h.pr; omega⟩
theorem StP.tok (h:StP c k s) (hc:WcOk c) (hk:k≤5000) (bb:Nat):TOk (c.Q.at bb) s where
 nt:=by show c.Q.nt=_; rw [hc.nt,h.ok.ths]
 n0:=by rw [h.ok.ths]; exact hc.n0
 n4:=by rw [h.ok.ths]; exact hc.cok.n4
 pc t ht:=by rw [h.ok.ths] at ht; exact Nat.le_trans (h.ok.pc t ht) (hc.cok.L4 t ht)
 rg t ht:=by rw [h.ok.ths] at ht; rw [h.ok.regs t ht]; exact hc.cok.rg2
 wl t ht:=by rw [h.ok.ths] at ht; exact h.ok.wlen t ht
 wk t ht x hx:=by
  rw [h.ok.ths] at ht
  have h1:=(h.ok.wok t ht x hx).1
  have h2:=hc.cok.m64
  have h3:=hc.cok.lk4
  refine ⟨h1.1,?_⟩
  have h4:=h1.2
  split at h4 <;> omega
 words:=by rw [h.ok.words]; exact hc.cok.m64
 own:=by rw [h.ok.own]; exact hc.cok.lk4
 pr:=by have:=h.pr; omega
 v:=h.v
theorem StP.kok (h:StP c k s) (hc:WcOk c) (hk:k≤5000) (bb:Nat):KOk (c.Q.at bb) s where
 nt:=by show c.Q.nt=_; rw [hc.nt,h.ok.ths]
 n0:=by rw [h.ok.ths]; exact hc.n0
 n4:=by rw [h.ok.ths]; exact hc.cok.n4
 rg0 t ht:=by rw [h.ok.ths] at ht; rw [h.ok.regs t ht]; exact hc.cok.rg0
 rg t ht:=by rw [h.ok.ths] at ht; rw [h.ok.regs t ht]; exact hc.cok.rg2
 wl t ht:=by rw [h.ok.ths] at ht; exact h.ok.wlen t ht
 words:=by rw [h.ok.words]; exact hc.cok.m64
 own:=by rw [h.ok.own]; exact hc.cok.lk4
 pr:=by have:=h.pr; omega
end
def keyT (c:Wc) (s:Sx):List UInt8:=textT (telX c.mode s)
theorem keyT_inj {c:Wc} (hc:WcOk c) {k j:Nat} {s r:Sx} (h1:StP c k s) (h2:StP c j r) (h:keyT c s=keyT c r):s=r:=by
 have hm:0≤c.mode:=by
  cases hb:c.Q.K.bf with
  | false=>rw [show c.mode=0 from hc.hM.mode0 hb]; decide
  | true=>have:=hc.hM.mode1 hb; show 0≤c.Q.K.mode; omega
 exact tel_inj h1.ok h2.ok hm (by rw [h1.fell,h2.fell]) (textT_inj h)
structure WkI (c:Wc) (W:World) (K O:List Sx) (os:List Nat):Prop where
 text:∃ bs,TxR W c.B c.tb bs
 kbox:W.heap[c.kb]? = some (.cells #[.map (some c.km)] 106)
 known:∃ n D,n≤K.length∧W.ownsMap Tryz.prog 9 (unitElem (H:=Unit)) c.km n D∧Maps.size D=K.length∧∀ l,Maps.has D (.string l)=true↔∃ s,s∈K∧keyT c s=l
 obox:∃ v,W.heap[c.ob]? = some (.cells #[v] 107)∧W.ownsRow c.B 54 1 v os.length (os.map fun b=>.pointer (some ⟨b,0,none⟩))
 len:os.length=O.length
 states:∀ i,i < O.length→∃ mb bb C v,QSt W C (c.Q.at bb) (os.getD i 0) mb v (O.getD i default)
 ok:∀ k,k < K.length→StP c k (K.getD k default)
 low:Below c.B c.w0 W
section
variable {c:Wc} {W W':World} {K O:List Sx} {os:List Nat}
theorem WkI.mem (h:WkI c W K O os) {s:Sx} (hs:s∈K):∃ k,k < K.length∧StP c k s:=by
 obtain ⟨k,hk,e⟩:=List.getElem_of_mem hs
 refine ⟨k,hk,?_⟩
 have:=h.ok k hk
 rw [List.getD_eq_getElem?_getD,List.getElem?_eq_getElem hk] at this
 rw [← e]; exact this
theorem ownsMap_kept {k:TypeId} {R:Value→Option (DataW Unit × List MemPlace)} {b n:Nat} {D:DataW Unit} (h:W.ownsMap Tryz.prog k R b n D) (hb:W'.heap[b]? = W.heap[b]?):W'.ownsMap Tryz.prog k R b n D:=by
 obtain ⟨es,clock,h1,r⟩:=h
 exact ⟨es,clock,hb.trans h1,r⟩
theorem WkI.kept {N:Nat→Obj→Prop} (h:WkI c W K O os) (hf:Fr c.B N W W') (h1:∀ k cs t,wTy t∨t=106→¬ N k (.cells cs t)) (h2:∀ o,¬ N c.km o) (h3:∀ r k cs,¬ N k (.cells cs (pTy c.Q.K r))):WkI c W' K O os:=by
 refine ⟨?_,hf.kept _ _ h.kbox (h1 _ _ _ (.inr rfl)),?_,?_,h.len,fun i hi=>?_,h.ok,h.low.trans hf.below⟩
 ·obtain ⟨bs,v,e1,e2⟩:=h.text
  exact ⟨bs,v,hf.kept _ _ e1 (h1 _ _ _ (.inl (.inr (.inl rfl)))),Fr.own e2 hf (fun k cs=>h1 k cs _ (.inl (.inl rfl)))⟩
 ·obtain ⟨n,D,e1,e2,e3⟩:=h.known
  refine ⟨n,D,e1,ownsMap_kept e2 ?_,e3⟩
  obtain ⟨es,clock,hb,_⟩:=e2
  rw [hb]; exact hf.kept _ _ hb (h2 _)
 ·obtain ⟨v,e1,e2⟩:=h.obox
  exact ⟨v,hf.kept _ _ e1 (h1 _ _ _ (.inl (.inr (.inr (.inr rfl))))),Fr.own e2 hf (fun k cs=>h1 k cs _ (.inl (.inr (.inr (.inl rfl)))))⟩
 ·obtain ⟨mb,bb,C,v,hq⟩:=h.states i hi
  exact ⟨mb,bb,C,v,Fr.qst hq hf h3⟩
theorem WkI.below (hc:WcOk c) (h:WkI c W K O os) (hb:Below W.heap.size W W'):WkI c W' K O os :=
 h.kept (N:=fun _ _=>False) (Fr.of_below (by rw [hc.Bw]; exact h.low.size) hb) (fun _ _ _ _ h=>h) (fun _ h=>h) (fun _ _ _ h=>h)
end
end
end Go.Proofs.YtelckcpjmekgcacGreatDoor
