import Derived.Test.YtelckcpjmekgcacGreatDoorZF6
import Derived.Test.YtelckcpjmekgcacGreatDoorPBufN
namespace Go.Proofs.YtelckcpjmekgcacGreatDoor
set_option maxHeartbeats 3200000
set_option maxRecDepth 100000
open Go.RowKit
theorem WsIn.congr {w:World} {wv:Value} {n:Nat} {L:Nat→Nat} {B B':Nat→Nat→Bool} (h:WsIn w wv n L B) (he:∀ t i,t < n→i < L t→B t i=B' t i):WsIn w wv n L B':=fun t ht=>by
 obtain ⟨g,c,gt,c',h1,h2,h3⟩:=h t ht
 exact ⟨g,c,gt,c',h1,h2,fun i hi=>by rw [← he t i ht hi]; exact h3 i hi⟩
structure WoI (S:World) (L:Nat→Nat) (f:Nat→Nat→Bool) (n:Nat) (W:World) (wv:Value) (tv:List Value) (ov:Value) (l:List Pl):Prop where
 st:StI S L f n W wv tv
 out:OwnP W S.heap.size ov l
theorem WoI.put {S:World} {L:Nat→Nat} {f:Nat→Nat→Bool} {n:Nat} {W:World} {wv:Value} {tv:List Value} {ov:Value} {l:List Pl} (h:WoI S L f n W wv tv ov l) {t i g:Nat} (ht:t < n) (hg:tv.getD t nilV=.slice (some ⟨g,0,none⟩) (L t) (L t)) (b:Bool):WoI S L (fun u j=>if u=t∧j=i then b else f u j) n (W.setCell ⟨g,i,none⟩ (.bool b)) wv tv ov l:=by
 refine ⟨h.st.put ht hg b,owns_far h.out ?_⟩
 obtain ⟨g1,h1,h2,_⟩:=h.st.thr t ht
 rw [hg] at h1
 have hgg:g=g1:=by simpa using h1
 subst hgg
 exact owns_two h2 h.out (by decide) rfl
theorem WoI.push {S:World} {L:Nat→Nat} {f:Nat→Nat→Bool} {n:Nat} {W:World} {wv:Value} {tv:List Value} {a:Option Addr} {c m:Nat} {l:List Pl} (h:WoI S L f n W wv tv (.slice a m c) l) (hm:m=l.length) (hl:m≤100) (t i:Nat) :
  ∃ g cap w3,(AppS #[46,46] 46 #[.slice a m c,.slice (some ⟨W.heap.size,0,none⟩) 1 1]).run Tryz.prog (W.alloc (.cells #[.int .i64 (t:Int),.int .i64 (i:Int)] 52))=.ok (.slice (some ⟨g,0,none⟩) (m+1) cap) w3∧WoI S L f n w3 wv tv (.slice (some ⟨g,0,none⟩) (m+1) cap) (l++[(t,i)]):=by
 have hs:=h.st.low.size
 obtain ⟨g,cap,w3,r1,r2,r3,r4⟩:=app_pl h.out (Below.refl _ _) hs t i (by omega)
 rw [← hm] at r1 r2
 have hbA:Below W.heap.size W (W.alloc (.cells #[.int .i64 (t:Int),.int .i64 (i:Int)] 52)):=(Below.refl _ _).alloc (Nat.le_refl _) _
 refine ⟨g,cap,w3,r1,⟨⟨app_pl_below h.out (Below.refl _ _) r3 hs h.st.low,own_grown (owns_below2 h.st.row hbA) r3 (fun x hx=>?_),fun u hu=>?_,h.st.apart⟩,r2⟩⟩
 ·intro e
  exact owns_two h.st.row h.out (by decide) hx e
 ·obtain ⟨g1,h1,h2,h3⟩:=h.st.thr u hu
  refine ⟨g1,h1,own_grown (owns_below2 h2 hbA) r3 (fun x hx=>?_),h3⟩
  intro e
  exact owns_two h2 h.out (by decide) hx e
theorem WoI.below {S:World} {L:Nat→Nat} {f:Nat→Nat→Bool} {n:Nat} {W V:World} {wv:Value} {tv:List Value} {ov:Value} {l:List Pl} (h:WoI S L f n W wv tv ov l) (hb:Below W.heap.size W V):WoI S L f n V wv tv ov l:=⟨h.st.below hb,h.out.below hb⟩
theorem bit_is:∀ s:Nat,s < 64→∀ d:Nat,d < 6→(bits BinOp.and IntKind.i64 ((s:Int)/2 ^ d) 1 == 1)=s.testBit d:=by decide +kernel
theorem WoI.drew {S:World} {L:Nat→Nat} {f:Nat→Nat→Bool} {n:Nat} {W:World} {wv:Value} {tv:List Value} {ov:Value} {l:List Pl} (h:WoI S L f n W wv tv ov l):WoI S L f n W.drew wv tv ov l:=h.below (Below.refl _ _).drew
def RFewE (w:World) (n:Nat) (L:Nat→Nat) (X:Nat→Nat→Nat→Int) (words:List Int) (lk rg:Nat) (e:Ending) (w':World):Prop:=∃ a c P z,e=.returned (.tuple #[.slice a P.length c,.int .i64 z])∧FewQ n L X words lk rg P z∧PlIn w' a P∧P.length≤6∧Below w.heap.size w w'
attribute [local go_sem ↓] appS_eq in
theorem rfew_any (w:World) (ca:Option Addr) (n cc:Nat) (wa:Option Addr) (wc lk rg:Nat) (words:List Int) (A:Nat→Option Addr) (L C:Nat→Nat) (X:Nat→Nat→Nat→Int) (hp:PIn w ca n A L C X) (hw:SIs w wa words) (hc:COk n L X words.length lk rg) (h4:∀ t,t < n→L t≤400) (hn0:0 < n) (hN:NormP n L X) :
  Calls Tryz.prog 14 #[prgV ca n cc wa words.length wc lk rg] w (RFewE w n L X words lk rg):=by
 obtain ⟨q0,hq0⟩:∃ s0,beginX n words lk rg=s0:=⟨_,rfl⟩
 obtain ⟨wl,hwl⟩:∃ k,words.length=k:=⟨_,rfl⟩
 have HMK:Hid (∀ V b,Below w.heap.size w V→Calls Tryz.prog 8 #[prgV ca n cc wa wl wc lk rg,.bool b] V (MakeQ V L X (if b then 1 else 0) q0)):=fun V b hb=>by
  rw [← hq0,← hwl]
  exact make_any V b ca n cc wa wc lk rg words A L C X (hw.below hb) hn0 hc (hp.below hb)
 have HST:Hid (∀ V,Below w.heap.size w V→Calls Tryz.prog 36 #[prgV ca n cc wa wl wc lk rg] V fun e w'=>∃ S v tv,e=.returned v∧Hid (StI S L (fun t i=>wtO (X t i 0)) n w' v tv∧Below V.heap.size V S)):=fun V hb=>(stores_st V ca n cc wa wl wc lk rg A L C X (hp.below hb) hc.n4 hc.L4).mono fun e w' ⟨S,v,tv,h1,h2,h3⟩=>⟨S,v,tv,h1,h2,h3⟩
 have HWI:Hid (∀ V hv S,Below w.heap.size w V→WsIn V hv n L (setB S)→Calls Tryz.prog 37 #[prgV ca n cc wa wl wc lk rg,hv] V (NewQ V n words lk rg (bSet X S) L)):=fun V hv S hb hws=>by
  rw [← hwl]
  exact with_any V ca n cc wa words wc lk rg hv (setB S) A L C X (hp.below hb) (hw.below hb) hc hws
 have HMQ:Hid (∀ V U V0 S va vc ua uc,NewQ V0 n words lk rg (bSet X S) L (.returned (.agg #[.slice va n vc,.slice ua wl uc,.int .i64 lk,.int .i64 rg])) U→Below U.heap.size U V→Calls Tryz.prog 8 #[.agg #[.slice va n vc,.slice ua wl uc,.int .i64 lk,.int .i64 rg],.bool true] V (MakeQ V (lenR (bSet X S) L) (numR (bSet X S) L) 1 q0)):=fun V U V0 S va vc ua uc hNq hU=>by
  rw [← hwl] at hNq ⊢
  rw [← hq0]
  obtain ⟨⟨A',C',h1⟩,h2,_⟩:=new_open hNq hU hc.n4 (set_cok hc h4 S).L4
  exact make_any V true va n vc ua uc lk rg words A' _ C' _ h2 hn0 (set_cok hc h4 S) h1
 have HSN:Hid (lenR (bSet X []) L=L∧numR (bSet X []) L=X):=set_none hN hc
 have HP:=hiD hp
 have HL:=hiD hc.L4
 have hn4:=hc.n4
 have HLN:Hid (∀ k,k≤n→(plA L X k).length≤4000):=fun k hk=>by
  have:=plA_le (X:=X) k (fun t ht=>hc.L4 t (by omega))
  have:k*1000≤4*1000:=Nat.mul_le_mul (by omega) (Nat.le_refl _)
  omega
 have HQ0:Hid (beginX n words lk rg=q0):=hq0
 have HWL:Hid (words.length=wl):=hwl
 obtain ⟨W,hW⟩:∃ V,w.alloc (.cells #[.slice ca n cc,.slice wa wl wc,.int .i64 lk,.int .i64 rg] 25)=V:=⟨_,rfl⟩
 have hbW:Below w.heap.size w W:=by rw [← hW]; exact (Below.refl _ _).alloc (Nat.le_refl _) _
 have hpb:W.heap[w.heap.size]? = some (.cells #[.slice ca n cc,.slice wa wl wc,.int .i64 lk,.int .i64 rg] 25):=by rw [← hW]; exact heap_alloc_new _ _
 have p0:=box_cell (i:=0) hpb rfl
 have HW:=hiD hW
 have HBW:=hiD (And.intro hbW hpb)
 rw [hwl]
 clear hp hw hc h4 hN hq0 hwl hW hbW hpb
 go_enter Tryz.func14,Tryz.ntmps14
 go_wp2
 rw [HW.out]
 clear p0
 go_loopw [4,5] (fun ov i wr=>∃ (k:Nat) (oa:Option Addr) (ol oc:Nat),k≤n∧i=.int .i64 k∧ov=.slice oa ol oc∧Hid (ol=(plA L X k).length∧LtI W wr (.slice oa ol oc) (plA L X k))) (fun _ i _=>n - (intOf i).toNat)
 case atStart=>exact ⟨0,none,0,0,Nat.zero_le _,rfl,rfl,rfl,LtI.start _⟩
 case round =>
  obtain ⟨k,oa,ol,oc,hk,rfl,rfl,HI⟩:=hrel
  have p0:wr.cell? ⟨w.heap.size,0,none⟩=some (.slice ca n cc):=box_cell ((HI.out.2.low.block _ (box_lt HBW.out.2)).trans HBW.out.2) rfl
  by_cases hlt:k < n
  ·have hwr:Below w.heap.size w wr:=HBW.out.1.trans (HI.out.2.low.mono HBW.out.1.size)
   obtain ⟨cb,co,rfl,hcell⟩:=(HP.out.below hwr).code k hlt
   obtain ⟨l,hl⟩:∃ l,L k=l:=⟨_,rfl⟩
   have hl4:l≤1000:=by rw [← hl]; exact HL.out k hlt
   have HLK:Hid (L k=l):=hl
   obtain ⟨ak,hak⟩:∃ a,A k=a:=⟨_,rfl⟩
   obtain ⟨ck,hck⟩:∃ a,C k=a:=⟨_,rfl⟩
   have HIN:Hid (∀ V,Below W.heap.size W V→V.cell? ⟨w.heap.size,0,none⟩=some (.slice (some ⟨cb,co,none⟩) n cc)∧V.cell? ⟨cb,co+k,none⟩=some (.slice ak l ck)∧∀ j,j < l→∃ ab ao,ak=some ⟨ab,ao,none⟩∧V.cell? ⟨ab,ao+j*4,none⟩=some (.int .i64 (X k j 0))):=fun V hV=>by
    have hbV:=HBW.out.1.trans (hV.mono HBW.out.1.size)
    obtain ⟨cb',co',e1,hc2⟩:=(HP.out.below hbV).code k hlt
    simp only [Option.some.injEq,Addr.mk.injEq,and_true] at e1
    obtain ⟨rfl,rfl⟩:=e1
    rw [hak,hl,hck] at hc2
    refine ⟨box_cell ((hV.block _ (box_lt HBW.out.2)).trans HBW.out.2) rfl,hc2,fun j hj=>?_⟩
    obtain ⟨ab,ao,e1,c,_⟩:=(HP.out.below hbV).ord k j hlt (by rw [hl]; exact hj)
    exact ⟨ab,ao,by rw [← hak,e1],c⟩
   have HB:Hid (plA L X (k+1)=plA L X k++plT X k l):=by rw [plA,HLK.out]; exact rfl
   clear hl hak hck hwr hcell
   go_wp2
   clear p0
   go_loopw [4,6] (fun ov i wi=>∃ (j:Nat) (oa:Option Addr) (ol oc:Nat),j≤l∧i=.int .i64 j∧ov=.slice oa ol oc∧ol≤4000+j∧Hid (ol=(plA L X k++plT X k j).length∧LtI W wi (.slice oa ol oc) (plA L X k++plT X k j))) (fun _ i _=>l - (intOf i).toNat)
   case atStart=>exact ⟨0,oa,ol,oc,Nat.zero_le _,rfl,rfl,by rw [HI.out.1]; exact HLN.out k (by omega),by rw [plT,List.append_nil]; exact HI.out.1,by rw [plT,List.append_nil]; exact HI.out.2⟩
   case round =>
    obtain ⟨j,oa,ol,oc,hj,rfl,rfl,hol,HJ⟩:=hrel
    obtain ⟨p0,hcell,hord⟩:=HIN.out wr HJ.out.2.low
    by_cases hjl:j < l
    ·obtain ⟨ab,ao,rfl,c0⟩:=hord j hjl
     obtain ⟨bw,hbw⟩:∃ b,wtO (X k j 0)=b:=⟨_,rfl⟩
     have HBW2:Hid (wtO (X k j 0)=bw):=hbw
     have HLW:Hid (∀ V,Calls Tryz.prog 35 #[.int .i64 (X k j 0)] V fun e w'=>e=.returned (.bool bw)∧w'=V):=fun V=>by
      rw [← hbw]
      exact rwaits_any V _
     clear hbw hord
     cases bw with
     | true =>
      obtain ⟨g3,cap3,w3,hrun3,hI3⟩:=HJ.out.2.push HJ.out.1 (Below.refl _ _) k j (by omega)
      have HI3:Hid (ol+1=(plA L X k++plT X k (j+1)).length∧LtI W w3 (.slice (some ⟨g3,0,none⟩) (ol+1) cap3) (plA L X k++plT X k (j+1))):=by
       have e1:plA L X k++plT X k (j+1)=(plA L X k++plT X k j)++[(k,j)]:=by rw [plT,if_pos HBW2.out,List.append_assoc]
       rw [e1]
       exact ⟨by rw [List.length_append,← HJ.out.1]; rfl,hI3⟩
      clear hI3
      go_wp2_with (go_at_call 35; refine (HLW.out _).mono ?_; rintro e w2 ⟨rfl,rfl⟩)
      go_roundw
      case rel=>exact ⟨j+1,_,_,_,by omega,by go_num,rfl,by omega,HI3⟩
      case measure=>simp [intOf]; omega
     | false =>
      have HI3:Hid (ol=(plA L X k++plT X k (j+1)).length∧LtI W wr (.slice oa ol oc) (plA L X k++plT X k (j+1))):=by
       have e1:plT X k (j+1)=plT X k j:=by rw [plT,if_neg (by rw [HBW2.out]; decide),List.append_nil]
       rw [e1]
       exact HJ
      go_wp2_with (go_at_call 35; refine (HLW.out _).mono ?_; rintro e w2 ⟨rfl,rfl⟩)
      go_roundw
      case rel=>exact ⟨j+1,oa,ol,oc,by omega,by go_num,rfl,by omega,HI3⟩
      case measure=>simp [intOf]; omega
    ·clear hord
     go_wp2
     go_roundw
     case rel=>exact ⟨k+1,oa,ol,oc,by omega,by go_num,rfl,by rw [HB.out,show l=j by omega]; exact HJ.out.1,by rw [HB.out,show l=j by omega]; exact HJ.out.2⟩
     case measure=>simp [intOf]; omega
  ·have hkn:k=n:=by omega
   subst hkn
   have HBX:Hid (∀ V,Below wr.heap.size wr V→Below w.heap.size w V∧V.heap[w.heap.size]? = some (.cells #[.slice ca k cc,.slice wa wl wc,.int .i64 lk,.int .i64 rg] 25)):=fun V hV=>by
    have hb:=HI.out.2.low.trans (hV.mono HI.out.2.low.size)
    exact ⟨HBW.out.1.trans (hb.mono HBW.out.1.size),(hb.block _ (box_lt HBW.out.2)).trans HBW.out.2⟩
   have HPL:Hid (ol=(plA L X k).length∧PlIn wr oa (plA L X k)):=⟨HI.out.1,by have:=HI.out.2.own; rw [HI.out.1] at this; exact this.pl⟩
   clear HI HP HL HLN HBW HW
   by_cases h6:6 < ol
   ·have h6':(ol:Int) > 6:=by omega
    have HFQ:Hid (FewQ k L X words lk rg [] 1):=.inl ⟨by rw [← HPL.out.1]; exact h6,rfl,rfl⟩
    go_wp2
    exact bodyPost_ret (v:=.tuple #[nilV,.int .i64 1]) (by simp [results,Tryz.results14,go_sem]) rfl ⟨none,0,[],1,rfl,HFQ.out,plIn_nil _ _,by simp,(HBX.out _ (Below.refl _ _)).1⟩
   ·have h6':¬ ((ol:Int) > 6):=by omega
    have hpb:=(HBX.out _ (Below.refl _ _)).2
    have p1:=box_cell (i:=1) hpb rfl
    have p2:=box_cell (i:=2) hpb rfl
    have p3:=box_cell (i:=3) hpb rfl
    clear hpb
    go_wp2_with fail
    refine Calls.mono (HMK.out _ false (HBX.out _ (Below.refl _ _)).1) ?_
    intro e w1 h1
    obtain ⟨pb1,full1,ea1,ec1,l1,rfl,ht1,c14,c15,ho1,hb1,hl1⟩:=h1
    have H1:Hid (Told (nxX L X 0) (outsX L X 0) q0 4000 full1 l1∧OsIn w1 ea1 l1∧OBd l1∧Below wr.heap.size wr w1):=⟨ht1,ho1,hb1,hl1⟩
    have HX1:Hid (∀ V,Below w1.heap.size w1 V→V.cell? ⟨pb1,4,none⟩=some (.slice ea1 l1.length ec1)∧V.cell? ⟨pb1,5,none⟩=some (.bool full1)):=fun V hV=>⟨(hV.cell (lt_of_cell c14)).trans c14,(hV.cell (lt_of_cell c15)).trans c15⟩
    have hpb:=(HBX.out w1 hl1).2
    clear ht1 c14 c15 ho1 hb1 hl1 p0 p1 p2 p3
    have p0:=box_cell (i:=0) hpb rfl
    have p1:=box_cell (i:=1) hpb rfl
    have p2:=box_cell (i:=2) hpb rfl
    have p3:=box_cell (i:=3) hpb rfl
    clear hpb
    go_wp2_with fail
    refine Calls.mono (HMK.out w1 true (HBX.out w1 H1.out.2.2.2).1) ?_
    intro e w2 h2
    obtain ⟨pb2,full2,ea2,ec2,l2,rfl,ht2,c24,c25,ho2,hb2,hl2⟩:=h2
    have H2:Hid (Told (nxX L X 1) (outsX L X 1) q0 4000 full2 l2∧Below w1.heap.size w1 w2):=⟨ht2,hl2⟩
    obtain ⟨c14,c15⟩:=HX1.out w2 hl2
    have HLW:Hid (Below wr.heap.size wr w2):=H1.out.2.2.2.trans (hl2.mono H1.out.2.2.2.size)
    clear ht2 c24 ho2 hb2 hl2 p0 p1 p2 p3 HMK c14
    cases full1 with
    | true =>
     have HFQ:Hid (FewQ k L X words lk rg [] 10):=.inr ⟨by rw [← HPL.out.1]; omega,.inl ⟨l1,by rw [HQ0.out]; exact H1.out.1,rfl,rfl⟩⟩
     go_wp2
     exact bodyPost_ret (v:=.tuple #[nilV,.int .i64 10]) (by simp [results,Tryz.results14,go_sem]) rfl ⟨none,0,[],10,rfl,HFQ.out,plIn_nil _ _,by simp,(HBX.out _ HLW.out).1⟩
    | false =>
     cases full2 with
     | true =>
      have HFQ:Hid (FewQ k L X words lk rg [] 10):=.inr ⟨by rw [← HPL.out.1]; omega,.inr ⟨l1,by rw [HQ0.out]; exact H1.out.1,by
       rw [sets_nil]
       refine .full (l:=l2) ?_
       unfold ToldS
       rw [HSN.out.1,HSN.out.2,HQ0.out]
       exact H2.out.1⟩⟩
      go_wp2
      exact bodyPost_ret (v:=.tuple #[nilV,.int .i64 10]) (by simp [results,Tryz.results14,go_sem]) rfl ⟨none,0,[],10,rfl,HFQ.out,plIn_nil _ _,by simp,(HBX.out _ HLW.out).1⟩
     | false =>
      have HX2:Hid (∀ V,Below w2.heap.size w2 V→V.cell? ⟨pb1,4,none⟩=some (.slice ea1 l1.length ec1)∧OsIn V ea1 l1):=fun V hV=>by
       have hb:=H2.out.2.trans (hV.mono H2.out.2.size)
       exact ⟨(HX1.out V hb).1,H1.out.2.1.below hb⟩
      clear HSN H2 HX1
      go_wp2
      go_loopw [11] (fun i wm=>∃ m:Nat,m≤ol+1∧i=.int .i64 m∧Hid ((∀ P z,FewR (ToldS k L X words lk rg) l1 (setsF (plA L X k) (ol+1 - m) m) P z→FewR (ToldS k L X words lk rg) l1 (setsL (plA L X k)) P z)∧Below w2.heap.size w2 wm)) (fun i _=>ol+1 - (intOf i).toNat)
      case atStart=>exact ⟨0,Nat.zero_le _,rfl,fun P z h=>by rw [HPL.out.1] at h; exact h,Below.refl _ _⟩
      case round =>
       obtain ⟨m,hm,rfl,HM⟩:=hrel
       by_cases hml:m < ol+1
       ·obtain ⟨N2,hN2⟩:∃ N2:Nat,2 ^ ol=N2:=⟨_,rfl⟩
        have hN3:wrap64 ((2:Int) ^ ol)=(N2:Int)∧N2≤64:=by
         rw [← hN2]
         rcases (by omega:ol=0∨ol=1∨ol=2∨ol=3∨ol=4∨ol=5∨ol=6) with e | e | e | e | e | e | e <;> rw [e] <;> decide +kernel
        obtain ⟨hsh,hN64⟩:=hN3
        have hsh2:wrap64 ((N2:Int) - 1)=(N2:Int) - 1:=by unfold wrap64; omega
        have HN2:Hid (2 ^ (plA L X k).length=N2):=by rw [← HPL.out.1]; exact hN2
        clear hN2
        go_wp2
        try rw [hsh]
        try rw [show decide (m≤ol)=true from decide_eq_true (by omega)]
        go_loopw [12] (fun i ws=>∃ s:Nat,s≤N2∧i=.int .i64 ((s:Int) - 1)∧Hid ((∀ P z,FewR (ToldS k L X words lk rg) l1 (remL (plA L X k) m s++setsF (plA L X k) (ol - m) (m+1)) P z→FewR (ToldS k L X words lk rg) l1 (setsL (plA L X k)) P z)∧Below w2.heap.size w2 ws)) (fun i _=>(intOf i+1).toNat)
        case atStart =>
         refine ⟨N2,Nat.le_refl _,rfl,fun P z h=>HM.out.1 P z ?_,HM.out.2⟩
         rw [← HN2.out,rem_all] at h
         rw [show ol+1 - m=(ol - m)+1 by omega,setsF]
         exact h
        case round =>
         obtain ⟨s,hs,rfl,HS⟩:=hrel
         rcases Nat.eq_zero_or_pos s with rfl | hs0
         ·go_wp2
          go_roundw
          case rel=>exact ⟨m+1,by omega,by go_num,fun P z h=>HS.out.1 P z (by rw [show ol+1 - (m+1)=ol - m by omega] at h; exact h),HS.out.2⟩
          case measure=>simp [intOf]; omega
         ·obtain ⟨s',hs'⟩:∃ s',(s:Int) - 1=((s':Nat):Int)∧s=s'+1:=⟨s - 1,by omega,by omega⟩
          obtain ⟨hs1,hs2⟩:=hs'
          have HS2:Hid (s=s'+1):=hs2
          have hs64:s' < 64:=by omega
          have HSN:Hid (s'≤N2):=by
           have:s'≤N2:=by omega
           exact this
          rw [hs1]
          have hb0:=HBX.out wr (HLW.out.trans (HS.out.2.mono HLW.out.size))
          have HB0:=hiD hb0.1
          have p0:=box_cell (i:=0) hb0.2 rfl
          have p1:=box_cell (i:=1) hb0.2 rfl
          have p2:=box_cell (i:=2) hb0.2 rfl
          have p3:=box_cell (i:=3) hb0.2 rfl
          clear hb0 hs1 hs2
          go_wp2_with fail
          refine Calls.mono (HST.out _ HB0.out) ?_
          rintro e w5 ⟨S1,v1,tv1,rfl,H5⟩
          obtain ⟨g1,cap1,hv1,_,_⟩:=fam_block H5.out.1.row (by omega)
          subst hv1
          have HI0:Hid (WoI S1 L (putU (plA L X k) s' (fun t i=>wtO (X t i 0)) 0) k w5 (.slice (some ⟨g1,0,none⟩) k cap1) tv1 nilV (outU (plA L X k) s' 0)):=⟨H5.out.1,ownP_nil _ _⟩
          have HBS:Hid (Below wr.heap.size wr S1):=H5.out.2
          clear H5 p0 p1 p2 p3 HST
          go_wp2
          go_loopw [13,15,16] (fun cv ov iv wj=>∃ (j cl:Nat) (oa2:Option Addr) (oc2:Nat),j≤ol∧iv=.int .i64 j∧cv=.int .i64 cl∧ov=.slice oa2 cl oc2∧cl≤j∧Hid (cl=(outU (plA L X k) s' j).length∧WoI S1 L (putU (plA L X k) s' (fun t i=>wtO (X t i 0)) j) k wj (.slice (some ⟨g1,0,none⟩) k cap1) tv1 (.slice oa2 cl oc2) (outU (plA L X k) s' j))) (fun _ _ iv _=>ol - (intOf iv).toNat)
          case atStart=>exact ⟨0,0,none,0,Nat.zero_le _,rfl,rfl,rfl,Nat.le_refl _,rfl,HI0.out⟩
          case round =>
           obtain ⟨j,cl,oa2,oc2,hj,rfl,rfl,rfl,hcl,HJ⟩:=hrel
           by_cases hjl:j < ol
           ·obtain ⟨bk,hbk⟩:∃ b,bitK ol s' j=b:=⟨_,rfl⟩
            have hbit:(bits BinOp.and IntKind.i64 ((s':Int)/2 ^ (ol - 1 - j)) 1 == 1)=bk:=by
             rw [← hbk]
             exact bit_is s' hs64 (ol - 1 - j) (by omega)
            have HBK:Hid (bitK (plA L X k).length s' j=bk):=by rw [← HPL.out.1]; exact hbk
            have hlow:Below w.heap.size w wr∧PlIn wr oa (plA L X k):=by
             have hb:=HLW.out.trans (HS.out.2.mono HLW.out.size)
             have hb2:=hb.trans (HBS.out.mono hb.size)
             have hb3:=hb2.trans (HJ.out.2.st.low.mono hb2.size)
             exact ⟨(HBX.out _ hb3).1,HPL.out.2.below hb3⟩
            obtain ⟨ab,ao,rfl,a0,a1⟩:=hlow.2 j (by rw [← HPL.out.1]; exact hjl)
            obtain ⟨pj,hpj⟩:∃ p,(plA L X k).getD j (0,0)=p:=⟨_,rfl⟩
            have hmem:pj∈plA L X k:=by
             rw [← hpj,List.getD_eq_getElem?_getD,List.getElem?_eq_getElem (by rw [← HPL.out.1]; exact hjl)]
             exact List.getElem_mem _
            obtain ⟨pt,pi⟩:=pj
            have HPJ:Hid ((plA L X k).getD j (0,0)=(pt,pi)):=hpj
            rw [hpj] at a0 a1
            obtain ⟨hpt,hpi,_⟩:=plA_mem.1 hmem
            obtain ⟨gt,hg1,hg2,hg3⟩:=HJ.out.2.st.thr pt hpt
            have htl:tv1.length=k:=by have:=HJ.out.2.st.row.1; omega
            have cr:wr.cell? ⟨g1,pt,none⟩=some (.slice (some ⟨gt,0,none⟩) (L pt) (L pt)):=fam_cell HJ.out.2.st.row rfl (by rw [← hg1]; simp [List.getD,show pt < tv1.length by omega])
            have cb:=fam_cell hg2 (g:=gt) rfl (boolsV_at (stL_at (f:=putU (plA L X k) s' (fun t i=>wtO (X t i 0)) j pt) (j:=L pt) hpi))
            have cf:wr.frozen? ⟨gt,pi,none⟩=false:=fam_frozen hg2 rfl _
            rw [if_pos hpi] at cb
            obtain ⟨ob,hob⟩:∃ b,putU (plA L X k) s' (fun t i=>wtO (X t i 0)) j pt pi=b:=⟨_,rfl⟩
            rw [hob] at cb
            have hput:=HJ.out.2.put (i:=pi) hpt hg1 bk
            have HPUT:Hid (WoI S1 L (putU (plA L X k) s' (fun t i=>wtO (X t i 0)) (j+1)) k (wr.setCell ⟨gt,pi,none⟩ (.bool bk)) (.slice (some ⟨g1,0,none⟩) k cap1) tv1 (.slice oa2 cl oc2) (outU (plA L X k) s' j)):=by
             have e:(fun u v=>if u=pt∧v=pi then bk else putU (plA L X k) s' (fun t i=>wtO (X t i 0)) j u v)=putU (plA L X k) s' (fun t i=>wtO (X t i 0)) (j+1):=by
              funext u v
              rw [putU_succ,HPJ.out,HBK.out]
             rw [← e]
             exact hput
            obtain ⟨Lt,hLt⟩:∃ x,L pt=x:=⟨_,rfl⟩
            rw [hLt] at cr hpi
            have HAV:Hid (∀ V,WoI S1 L (putU (plA L X k) s' (fun t i=>wtO (X t i 0)) (j+1)) k V (.slice (some ⟨g1,0,none⟩) k cap1) tv1 (.slice oa2 cl oc2) (outU (plA L X k) s' j)→V.cell? ⟨ab,ao+j*2,none⟩=some (.int .i64 (pt:Int))∧V.cell? ⟨ab,ao+j*2+1,none⟩=some (.int .i64 (pi:Int))):=fun V hV=>by
             have hb:=HLW.out.trans (HS.out.2.mono HLW.out.size)
             have hb2:=hb.trans (HBS.out.mono hb.size)
             have hb3:=hb2.trans (hV.st.low.mono hb2.size)
             obtain ⟨ab',ao',e,x0,x1⟩:=(HPL.out.2.below hb3) j (by rw [← HPL.out.1]; exact hjl)
             simp only [Option.some.injEq,Addr.mk.injEq,and_true] at e
             obtain ⟨rfl,rfl⟩:=e
             rw [HPJ.out] at x0 x1
             exact ⟨x0,x1⟩
            clear hbk hlow hmem hpj hg1 hg2 hg3 hput hob hLt
            cases bk with
            | true =>
             obtain ⟨V,hV⟩:∃ V,(wr.setCell ⟨gt,pi,none⟩ (.bool true)).drew=V:=⟨_,rfl⟩
             have hWV:WoI S1 L (putU (plA L X k) s' (fun t i=>wtO (X t i 0)) (j+1)) k V (.slice (some ⟨g1,0,none⟩) k cap1) tv1 (.slice oa2 cl oc2) (outU (plA L X k) s' j):=by rw [← hV]; exact HPUT.out.drew
             obtain ⟨g3,cap3,w3,hrun3,hI3⟩:=hWV.push HJ.out.1 (by omega) pt pi
             have HI3:Hid (cl+1=(outU (plA L X k) s' (j+1)).length∧WoI S1 L (putU (plA L X k) s' (fun t i=>wtO (X t i 0)) (j+1)) k w3 (.slice (some ⟨g1,0,none⟩) k cap1) tv1 (.slice (some ⟨g3,0,none⟩) (cl+1) cap3) (outU (plA L X k) s' (j+1))):=by
              have e1:outU (plA L X k) s' (j+1)=outU (plA L X k) s' j++[(pt,pi)]:=by rw [outU,if_pos HBK.out,HPJ.out]
              rw [e1]
              exact ⟨by rw [List.length_append,← HJ.out.1]; rfl,hI3⟩
             obtain ⟨x0,x1⟩:=HAV.out V hWV
             have HV:Hid ((wr.setCell ⟨gt,pi,none⟩ (.bool true)).drew=V):=hV
             clear hV hWV hI3 HAV HPUT
             go_wp2
             go_region
             rw [HV.out]
             clear a0 a1 cr cb cf
             go_wp2
             go_roundw
             case rel=>exact ⟨j+1,cl+1,_,_,by omega,by go_num,by go_num,rfl,by omega,HI3⟩
             case measure=>simp [intOf]; omega
            | false =>
             have HI3:Hid (cl=(outU (plA L X k) s' (j+1)).length∧WoI S1 L (putU (plA L X k) s' (fun t i=>wtO (X t i 0)) (j+1)) k (wr.setCell ⟨gt,pi,none⟩ (.bool false)).drew (.slice (some ⟨g1,0,none⟩) k cap1) tv1 (.slice oa2 cl oc2) (outU (plA L X k) s' (j+1))):=by
              have e1:outU (plA L X k) s' (j+1)=outU (plA L X k) s' j:=by rw [outU,if_neg (by rw [HBK.out]; decide),List.append_nil]
              rw [e1]
              exact ⟨HJ.out.1,HPUT.out.drew⟩
             clear HAV HPUT
             go_wp2
             go_region
             go_wp2
             go_roundw
             case rel=>exact ⟨j+1,cl,oa2,oc2,by omega,by go_num,rfl,rfl,by omega,HI3⟩
             case measure=>simp [intOf]; omega
           ·have hjo:j=ol:=by omega
            subst hjo
            have HOU:Hid (outU (plA L X k) s' j=bitS (plA L X k) s'):=by
             have:=out_bit (plA L X k) s'
             rw [← HPL.out.1] at this
             exact this
            have HLR:Hid (Below w2.heap.size w2 wr∧Below w.heap.size w wr∧wr.heap[w.heap.size]? = some (.cells #[.slice ca k cc,.slice wa wl wc,.int .i64 lk,.int .i64 rg] 25)):=by
             have hb2:=HS.out.2.trans (HBS.out.mono HS.out.2.size)
             have hb3:=hb2.trans (HJ.out.2.st.low.mono hb2.size)
             have hb4:=HLW.out.trans (hb3.mono HLW.out.size)
             exact ⟨hb3,HBX.out _ hb4⟩
            by_cases hcm:cl=m
            ·subst hcm
             have HTL:Hid (∀ P z,FewR (ToldS k L X words lk rg) l1 (bitS (plA L X k) s'::(remL (plA L X k) cl s'++setsF (plA L X k) (j - cl) (cl+1))) P z→FewR (ToldS k L X words lk rg) l1 (setsL (plA L X k)) P z):=fun P z h=>by
              refine HS.out.1 P z ?_
              rw [HS2.out,rem_yes (by rw [← HOU.out]; exact HJ.out.1.symm)]
              exact h
             have HWS:Hid (WsIn wr (.slice (some ⟨g1,0,none⟩) k cap1) k L (setB (bitS (plA L X k) s'))):=HJ.out.2.st.done.congr (fun t i ht hi=>by
              have:=put_set (X:=X) (s:=s') ht hi
              rw [← HPL.out.1] at this
              exact this)
             have HPO:Hid (PlIn wr oa2 (bitS (plA L X k) s')∧(bitS (plA L X k) s').length=cl):=by
              have h1:=HJ.out.2.out
              have h2:=HJ.out.1
              rw [HOU.out] at h1 h2
              rw [h2] at h1
              exact ⟨h1.pl,h2.symm⟩
             have p0:=box_cell (i:=0) HLR.out.2.2 rfl
             have p1:=box_cell (i:=1) HLR.out.2.2 rfl
             have p2:=box_cell (i:=2) HLR.out.2.2 rfl
             have p3:=box_cell (i:=3) HLR.out.2.2 rfl
             clear HJ HS HI0 HBS HOU
             go_wp2_with fail
             refine Calls.mono (HWI.out _ _ _ HLR.out.2.1 HWS.out) ?_
             intro e w6 hN6
             obtain ⟨va,vc,ua,uc,tv6,he,hN7⟩:=hN6
             have HN6:Hid (NewQ wr k words lk rg (bSet X (bitS (plA L X k) s')) L e w6∧Below wr.heap.size wr w6):=⟨⟨va,vc,ua,uc,tv6,he,hN7⟩,hN7.2.2.2⟩
             rw [HWL.out] at he
             subst he
             clear hN7 HWI HWS p0 p1 p2 p3
             go_wp2_with fail
             obtain ⟨V7,hV7⟩:∃ V,w6.alloc (.cells #[.slice va k vc,.slice ua wl uc,.int .i64 (lk:Int),.int .i64 (rg:Int)] 25)=V:=⟨_,rfl⟩
             have hb7:Below w6.heap.size w6 V7:=by rw [← hV7]; exact (Below.refl _ _).alloc (Nat.le_refl _) _
             have HMK7:=HMQ.out V7 w6 wr (bitS (plA L X k) s') va vc ua uc HN6.out.1 hb7
             rw [hV7]
             refine Calls.mono HMK7 ?_
             intro e w8 h8
             obtain ⟨pb3,full3,ea3,ec3,l3,rfl,ht3,c34,c35,ho3,hb3,hl3⟩:=h8
             have HT3:Hid (ToldS k L X words lk rg (bitS (plA L X k) s') full3 l3):=by
              unfold ToldS
              rw [HQ0.out]
              exact ht3
             have HL8:Hid (∀ V,Below w8.heap.size w8 V→Below w2.heap.size w2 V∧Below w.heap.size w V∧PlIn V oa2 (bitS (plA L X k) s')):=fun V hV=>by
              have g1:=HN6.out.2.trans (hb7.mono HN6.out.2.size)
              have g2:=g1.trans (hl3.mono g1.size)
              have g3:=g2.trans (hV.mono g2.size)
              exact ⟨HLR.out.1.trans (g3.mono HLR.out.1.size),HLR.out.2.1.trans (g3.mono HLR.out.2.1.size),HPO.out.1.below g3⟩
             have HSM:Hid (∀ V,Below w8.heap.size w8 V→Calls Tryz.prog 9 #[.slice ea3 l3.length ec3,.slice ea1 l1.length ec1] V fun e w'=>∃ r,e=.returned (.bool r)∧Hid (r=decide (l3=l1)∧Below V.heap.size V w')):=fun V hV=>(rsame_any ea3 ea1 l3 l1 ec3 ec1 hb3 H1.out.2.2.1 V (ho3.below hV) (HX2.out V (HL8.out V hV).1).2).mono fun e w' ⟨h1,h2⟩=>⟨_,h1,rfl,h2⟩
             have c14:=(HX2.out w8 (HL8.out w8 (Below.refl _ _)).1).1
             clear ht3 ho3 hb3 hl3 hb7 hV7 HMK7 HMQ HN6
             cases full3 with
             | true =>
              have HFQ:Hid (FewQ k L X words lk rg [] 10):=.inr ⟨by rw [← HPL.out.1]; omega,.inr ⟨l1,by rw [HQ0.out]; exact H1.out.1,HTL.out _ _ (.full HT3.out)⟩⟩
              clear HSM c14 c34
              go_wp2
              exact bodyPost_ret (v:=.tuple #[nilV,.int .i64 10]) (by simp [results,Tryz.results14,go_sem]) rfl ⟨none,0,[],10,rfl,HFQ.out,plIn_nil _ _,by simp,(HL8.out _ (Below.refl _ _)).2.1⟩
             | false =>
              obtain ⟨n3,hn3⟩:∃ x,l3.length=x:=⟨_,rfl⟩
              obtain ⟨n1,hn1⟩:∃ x,l1.length=x:=⟨_,rfl⟩
              rw [hn3] at c34
              rw [hn1] at c14
              rw [hn3,hn1] at HSM
              clear hn3 hn1
              go_wp2
              go_region_with (go_at_call 9; refine Calls.mono (HSM.out _ (Below.refl _ _).drew) ?_; rintro e w9 ⟨r,rfl,H9⟩)
              all_goals cases r with
               | true =>
                have hse:=(of_decide_eq_true H9.out.1.symm:l3=l1)
                have HFQ:Hid (FewQ k L X words lk rg (bitS (plA L X k) s') 0):=.inr ⟨by rw [← HPL.out.1]; omega,.inr ⟨l1,by rw [HQ0.out]; exact H1.out.1,HTL.out _ _ (.hit (by rw [← hse]; exact HT3.out))⟩⟩
                have HL9:Hid (Below w.heap.size w w9∧PlIn w9 oa2 (bitS (plA L X k) s')):=by
                 have:=HL8.out w9 ((Below.refl _ _).drew.trans H9.out.2)
                 exact ⟨this.2.1,this.2.2⟩
                clear hse HSM c14 c34 H9
                go_wp2
                refine bodyPost_ret (v:=.tuple #[.slice oa2 cl oc2,.int .i64 0]) (by simp [results,Tryz.results14,go_sem]) rfl ⟨oa2,oc2,bitS (plA L X k) s',0,by rw [HPO.out.2],HFQ.out,HL9.out.2,?_,HL9.out.1⟩
                rw [HPO.out.2]
                omega
               | false =>
                have hse:=(of_decide_eq_false H9.out.1.symm:¬ l3=l1)
                have HREL:Hid ((∀ P z,FewR (ToldS k L X words lk rg) l1 (remL (plA L X k) cl s'++setsF (plA L X k) (j - cl) (cl+1)) P z→FewR (ToldS k L X words lk rg) l1 (setsL (plA L X k)) P z)∧Below w2.heap.size w2 w9):=⟨fun P z h=>HTL.out P z (.next HT3.out hse h),(HL8.out w9 ((Below.refl _ _).drew.trans H9.out.2)).1⟩
                clear hse HSM c14 c34 H9
                go_wp2
                go_roundw
                case rel=>exact ⟨s',HSN.out,rfl,HREL⟩
                case measure=>simp [intOf]
            ·have hne:((cl:Int) != (m:Int))=true:=by simpa using (fun h:(cl:Int)=(m:Int)=>hcm (by omega))
             have HREL:Hid ((∀ P z,FewR (ToldS k L X words lk rg) l1 (remL (plA L X k) m s'++setsF (plA L X k) (j - m) (m+1)) P z→FewR (ToldS k L X words lk rg) l1 (setsL (plA L X k)) P z)∧Below w2.heap.size w2 wr):=by
              refine ⟨fun P z h=>HS.out.1 P z ?_,HLR.out.1⟩
              rw [HS2.out,rem_no (by rw [← HOU.out,← HJ.out.1]; exact hcm)]
              exact h
             clear HJ HS HI0 HBS HOU
             go_wp2
             go_roundw
             case rel=>exact ⟨s',HSN.out,rfl,HREL⟩
             case measure=>simp [intOf]
       ·go_wp2
        have HFQ:Hid (FewQ k L X words lk rg [] 0):=.inr ⟨by rw [← HPL.out.1]; omega,.inr ⟨l1,by rw [HQ0.out]; exact H1.out.1,HM.out.1 _ _ (by rw [show ol+1 - m=0 by omega]; exact .done)⟩⟩
        exact bodyPost_ret (v:=.tuple #[nilV,.int .i64 0]) (by simp [results,Tryz.results14,go_sem]) rfl ⟨none,0,[],0,rfl,HFQ.out,plIn_nil _ _,by simp,(HBX.out _ (HLW.out.trans (HM.out.2.mono HLW.out.size))).1⟩
end Go.Proofs.YtelckcpjmekgcacGreatDoor
