import Derived.Test.YtelckcpjmekgcacGreatDoorOpens3
namespace Go.Proofs.YtelckcpjmekgcacGreatDoor
set_option maxHeartbeats 1600000
set_option maxRecDepth 100000
section
open Go.RowKit Go.Sort Go.Shelf
theorem run_clear_oc (W:World) (ty:TypeId) (b o m c:Nat) (hm:0 < m) (hc:∀ j,j < m*3→(W.cell? ⟨b,o+j,none⟩).isSome=true) (hf:∀ j,j < m*3→W.frozen? ⟨b,o+j,none⟩=false) :
  ∃ vs,(ClS #[40] ty #[.slice (some ⟨b,o,none⟩) m c]).run Tryz.prog W=.ok (.tuple #[]) (W.setCells b o vs):=by
 obtain ⟨i,hi,hz0,_,_⟩:=info_is infoOutcome
 have hv:∀ w,(zeroValue 67).run Tryz.prog w=.ok (.agg #[.int .i64 0,nilV,nilV]) w:=fun w=>by simp [zeroValue,typeInfo,hi,hz0]
 obtain ⟨vs,hvs⟩:∃ vs,vs=(Builtin.zeroCells (Value.agg #[.int .i64 0,nilV,nilV]).cells m).toList:=⟨_,rfl⟩
 have hl:vs.length=m*3:=by rw [hvs,Array.length_toList,size_zeroCells]; rfl
 have h1:∀ v∈vs,v.oneCell'=true:=fun v hv'=>by
  rw [hvs] at hv'
  unfold Builtin.zeroCells at hv'
  simp only [Array.toList_map,List.mem_map] at hv'
  obtain ⟨k,_,rfl⟩:=hv'
  show ((#[Value.int .i64 0,nilV,nilV]:Array Value)[k % 3]!).oneCell'=true
  rcases (by omega:k % 3=0∨k % 3=1∨k % 3=2) with e | e | e <;> rw [e] <;> rfl
 have hst:=run_storeCells_cells (P:=Tryz.prog) b o vs 0 W (by rw [hl]; simpa using hc) (by rw [hl]; simpa using hf) h1
 simp only [Nat.add_zero] at hst
 obtain ⟨q,rfl⟩:∃ q,m=q+1:=⟨m - 1,by omega⟩
 refine ⟨vs,?_⟩
 unfold ClS
 simp [Builtin.clear_,run_underlying Tryz.underlying40,hv,← hvs,hst]
attribute [local go_sem ↓] clS_eq
theorem compact_any (w:World) (B g c:Nat) (es:List En) (h:IsO w B (some ⟨g,0,none⟩) es.length c es) (hX:∀ e,e∈es→EnX w g e) (hB:B≤w.heap.size) (hg:B≤g) (hl:es.length≤100000) (hc:es.length≤c) :
  Calls Tryz.prog 102 #[.slice (some ⟨g,0,none⟩) es.length c,.func (.func 64) #[] #[]] w fun e w'=>∃ k es',e=.returned (.slice (some ⟨g,0,none⟩) k c)∧IsO w' B (some ⟨g,0,none⟩) k c es'∧es'=compE es es.length∧Srt B w w' (some ⟨g,0,none⟩):=by
 have HX:Hid (∀ W k,Srt B w W (some ⟨g,0,none⟩)→k < es.length→EnOk W (es.getD k default)):=fun W k hs hk=>(hX _ (getD_in hk)).ok_at hs
 have HSM:Hid (∀ W i j,Srt B w W (some ⟨g,0,none⟩)→i < es.length→j < es.length→Calls Tryz.prog 64 #[ocV (es.getD i default).o.st (es.getD i default).wa (es.getD i default).o.ws.length (es.getD i default).wc (es.getD i default).pa (es.getD i default).o.pr.length (es.getD i default).pc,ocV (es.getD j default).o.st (es.getD j default).wa (es.getD j default).o.ws.length (es.getD j default).wc (es.getD j default).pa (es.getD j default).o.pr.length (es.getD j default).pc] W fun e w'=>e=.returned (.bool (decide ((es.getD i default).o=(es.getD j default).o)))∧Below W.heap.size W w'):=fun W i j hs hi hj=>same_any W _ _ (HX.out W i hs hi) (HX.out W j hs hj)
 have HS:Hid (IsO w B (some ⟨g,0,none⟩) es.length c es∧B≤w.heap.size∧B≤g∧∀ W,Srt B w W (some ⟨g,0,none⟩)→True):=⟨h,hB,hg,fun _ _=>trivial⟩
 obtain ⟨n,hn⟩:∃ n,es.length=n:=⟨_,rfl⟩
 have HN:Hid (es.length=n):=hn
 rw [hn] at hl hc HSM HS ⊢
 clear h hX hB hg hn HX
 by_cases h2:n < 2
 ·have h2':(n:Int) < 2:=by omega
  go_enter Tryz.func102,Tryz.ntmps102
  go_wp2_with fail
  go_ret
  refine ⟨n,es,rfl,HS.out.1,?_,Srt.refl _ _ _⟩
  rw [compE_take (by rw [HN.out]; exact Nat.le_refl _) (fun j h3 h4=>absurd h4 (by omega)),← HN.out,List.take_length]
 ·have h2':¬ (n:Int) < 2:=by omega
  go_enter Tryz.func102,Tryz.ntmps102
  go_wp2_with fail
  go_loopw [5] (fun i wr=>∃ k:Nat,0 < k∧k≤n∧i=.int .i64 k∧Hid (IsO wr B (some ⟨g,0,none⟩) n c es∧Srt B w wr (some ⟨g,0,none⟩)∧∀ j,0 < j→j < k→(es.getD j default).o≠(es.getD (j - 1) default).o)) (fun i _=>n - (intOf i).toNat)
  case atStart=>exact ⟨1,by omega,by omega,rfl,HS.out.1,Srt.refl _ _ _,fun j h3 h4=>absurd h4 (by omega)⟩
  case round =>
   obtain ⟨k,hk0,hk,rfl,HI⟩:=hrel
   by_cases hlt:k < n
   ·obtain ⟨p,hp⟩:∃ p,k - 1=p:=⟨_,rfl⟩
    have HPK:Hid (k - 1=p):=hp
    have hpn:p < n:=by omega
    have hsub:((k:Nat):Int) - 1=(p:Int):=by omega
    obtain ⟨a0,a1,a2⟩:=HI.out.1.cells (k:=k) hlt
    obtain ⟨b0,b1,b2⟩:=HI.out.1.cells (k:=p) hpn
    obtain ⟨R,hR⟩:∃ R,decide ((es.getD k default).o=(es.getD p default).o)=R:=⟨_,rfl⟩
    have HR:Hid (decide ((es.getD k default).o=(es.getD p default).o)=R):=hR
    have hwr:IntKind.i64.wrap (p:Int)=p:=by simp [IntKind.wrap,IntKind.bits,IntKind.signed]; omega
    obtain ⟨⟨⟨s1,l1,m1⟩,wa1,wc1,pa1,pc1⟩,hx1⟩:∃ x,es.getD k default=x:=⟨_,rfl⟩
    obtain ⟨⟨⟨s2,l2,m2⟩,wa2,wc2,pa2,pc2⟩,hx2⟩:∃ x,es.getD p default=x:=⟨_,rfl⟩
    have HC:Hid (Calls Tryz.prog 64 #[.agg #[.int .i64 s1,.slice wa1 l1.length wc1,.slice pa1 m1.length pc1],.agg #[.int .i64 s2,.slice wa2 l2.length wc2,.slice pa2 m2.length pc2]] wr.drew fun e w'=>e=.returned (.bool R)∧Below wr.heap.size wr w'):=by
     have h:=HSM.out wr.drew k p ⟨HI.out.2.1.below.drew,HI.out.2.1.kept⟩ hlt hpn
     rw [hR,hx1,hx2] at h
     exact Calls.mono h fun e w' ⟨h1,h2⟩=>⟨h1,(Below.refl _ _).drew.trans h2⟩
    rw [hx1] at a0 a1 a2
    rw [hx2] at b0 b1 b2
    dsimp only at a0 a1 a2 b0 b1 b2
    clear hR hp hx1 hx2
    go_wp2_with fail
    refine region_tail 10 (by kernel_rfl) (by kernel_rfl) ?_
    simp only [List.take_succ_cons,List.take_zero,List.drop_succ_cons,List.drop_zero]
    repeat still_step
    refine wpStill_nil ?_
    go_wp2_with fail
    refine Calls.mono HC.out ?_
    rintro e w1 ⟨rfl,hb1⟩
    have HI1:Hid (IsO w1 B (some ⟨g,0,none⟩) n c es∧Srt B w w1 (some ⟨g,0,none⟩)):=⟨HI.out.1.below hb1,HI.out.2.1.then_below HS.out.2.1 hb1⟩
    have HP:Hid (∀ j,0 < j→j < k→(es.getD j default).o≠(es.getD (j - 1) default).o):=HI.out.2.2
    clear HC a0 a1 a2 b0 b1 b2 hb1 HI
    cases R with
    | false =>
     go_wp2_with fail
     go_roundw
     case rel =>
      refine ⟨k+1,by omega,by omega,by go_num,HI1.out.1,HI1.out.2,fun j h3 h4=>?_⟩
      rcases Nat.lt_or_ge j k with h5 | h5
      ·exact HP.out j h3 h5
      ·obtain rfl:j=k:=by omega
       have:=HR.out
       rw [decide_eq_false_iff_not,← HPK.out] at this
       exact this
     case measure=>simp [intOf]; omega
    | true =>
     have HCP:Hid (CpI w w1 B g n c es es k k 1):=by
      have he:(es.getD k default).o=(es.getD (k - 1) default).o:=by rw [HPK.out]; exact of_decide_eq_true HR.out
      refine ⟨HI1.out.1,HI1.out.2,?_,fun _ _=>rfl,by omega,by omega⟩
      rw [compE_same (by omega) he,compE_take (by rw [HN.out]; exact hk) HP.out]
     have hcp:¬ c=k:=by omega
     have HG:Hid (B≤w.heap.size∧B≤g):=⟨HS.out.2.1,HS.out.2.2.1⟩
     have HK:Hid (0 < k∧k < n):=⟨hk0,hlt⟩
     clear HI1 HP HR HPK hpn hsub hwr
     go_wp2_with fail
     obtain ⟨m,hm⟩:∃ m,n - k=m:=⟨_,rfl⟩
     have hkm:k+m=n:=by omega
     rw [hm]
     go_loopw [5,7] (fun i j wr=>∃ (kk q:Nat) (es2:List En),0 < q∧q≤m∧kk < n∧i=.int .i64 kk∧j=.int .i64 q∧Hid (CpI w wr B g n c es es2 k kk q)) (fun _ j _=>m - (intOf j).toNat)
     case atStart=>exact ⟨k,1,es,by omega,by omega,hlt,rfl,rfl,HCP⟩
     case round =>
      obtain ⟨kk,q,es2,hq0,hq,hkk,rfl,rfl,HI⟩:=hrel
      clear HCP
      by_cases hqm:q < m
      ·obtain ⟨r,hr⟩:∃ r,q - 1=r:=⟨_,rfl⟩
       have HRQ:Hid (q - 1=r):=hr
       have hrm:r < m:=by omega
       have hsub:((q:Nat):Int) - 1=(r:Int):=by omega
       have hwr:IntKind.i64.wrap (r:Int)=r:=by simp [IntKind.wrap,IntKind.bits,IntKind.signed]; omega
       have hk1:=HI.out.k1
       obtain ⟨a0,a1,a2⟩:=HI.out.is.cells (k:=k+q) (by omega)
       obtain ⟨b0,b1,b2⟩:=HI.out.is.cells (k:=k+r) (by omega)
       rw [HI.out.rest (k+q) (by omega),Nat.add_mul] at a0 a1 a2
       rw [HI.out.rest (k+r) (by omega),Nat.add_mul] at b0 b1 b2
       obtain ⟨R,hR⟩:∃ R,decide ((es.getD (k+q) default).o=(es.getD (k+r) default).o)=R:=⟨_,rfl⟩
       have HR:Hid (decide ((es.getD (k+q) default).o=(es.getD (k+r) default).o)=R):=hR
       have HNEW:Hid (∀ W,CpI w W B g n c es es2 k kk q→R=false→CpI w (W.setCells g (kk*3) [.int .i64 (es.getD (k+q) default).o.st,.slice (es.getD (k+q) default).wa (es.getD (k+q) default).o.ws.length (es.getD (k+q) default).wc,.slice (es.getD (k+q) default).pa (es.getD (k+q) default).o.pr.length (es.getD (k+q) default).pc]) B g n c es (es2.set kk (es.getD (k+q) default)) k (kk+1) (q+1)):=fun W h e=>by
        refine h.new HG.out.2 (by omega) ?_
        have:=HR.out
        rw [e,decide_eq_false_iff_not] at this
        rw [show k+q - 1=k+r by omega]
        exact this
       have HOLD:Hid (∀ W,CpI w W B g n c es es2 k kk q→R=true→CpI w W B g n c es es2 k kk (q+1)):=fun W h e=>by
        refine h.same ?_
        rw [show k+q - 1=k+r by omega]
        exact of_decide_eq_true (HR.out.trans e)
       obtain ⟨⟨⟨s3,l3,m3⟩,wa3,wc3,pa3,pc3⟩,hx1⟩:∃ x,es.getD (k+q) default=x:=⟨_,rfl⟩
       obtain ⟨⟨⟨s4,l4,m4⟩,wa4,wc4,pa4,pc4⟩,hx2⟩:∃ x,es.getD (k+r) default=x:=⟨_,rfl⟩
       have HC:Hid (Calls Tryz.prog 64 #[.agg #[.int .i64 s3,.slice wa3 l3.length wc3,.slice pa3 m3.length pc3],.agg #[.int .i64 s4,.slice wa4 l4.length wc4,.slice pa4 m4.length pc4]] wr.drew fun e w'=>e=.returned (.bool R)∧Below wr.heap.size wr w'):=by
        have h:=HSM.out wr.drew (k+q) (k+r) ⟨HI.out.srt.below.drew,HI.out.srt.kept⟩ (by omega) (by omega)
        rw [hR,hx1,hx2] at h
        exact Calls.mono h fun e w' ⟨h1,h2⟩=>⟨h1,(Below.refl _ _).drew.trans h2⟩
       rw [hx1] at a0 a1 a2 HNEW
       rw [hx2] at b0 b1 b2
       dsimp only at a0 a1 a2 b0 b1 b2 HNEW
       clear hR hr hx1 hx2 hk1 HR
       go_wp2_with fail
       refine region_tail 10 (by kernel_rfl) (by kernel_rfl) ?_
       simp only [List.take_succ_cons,List.take_zero,List.drop_succ_cons,List.drop_zero]
       repeat still_step
       refine wpStill_nil ?_
       go_wp2_with fail
       refine Calls.mono HC.out ?_
       rintro e w2 ⟨rfl,hb2⟩
       have HI2:Hid (CpI w w2 B g n c es es2 k kk q):=⟨HI.out.is.below hb2,HI.out.srt.then_below HG.out.1 hb2,HI.out.take,HI.out.rest,HI.out.k1,HI.out.k0⟩
       have z0:=(hb2.cell (lt_of_cell a0)).trans a0
       have z1:=(hb2.cell (lt_of_cell a1)).trans a1
       have z2:=(hb2.cell (lt_of_cell a2)).trans a2
       clear HC a0 a1 a2 b0 b1 b2 hb2 HI
       cases R with
       | true =>
        go_wp2_with fail
        go_roundw
        case rel=>exact ⟨kk,q+1,es2,by omega,by omega,hkk,rfl,by go_num,HOLD.out _ HI2.out (by trivial)⟩
        case measure=>simp [intOf]; omega
       | false =>
        have hk1:=HI2.out.k1
        have hkn:kk+1 < n:=by omega
        obtain ⟨c0,c1,c2⟩:=HI2.out.is.cells (k:=kk) hkk
        have f0:∀ i,w2.frozen? ⟨g,i,none⟩=false:=fun i=>fam_frozen HI2.out.is.own rfl i
        have HN2:Hid (CpI w (((w2.setCell ⟨g,kk*3,none⟩ (.int .i64 s3)).setCell ⟨g,kk*3+1,none⟩ (.slice wa3 l3.length wc3)).setCell ⟨g,kk*3+2,none⟩ (.slice pa3 m3.length pc3)) B g n c es (es2.set kk ⟨⟨s3,l3,m3⟩,wa3,wc3,pa3,pc3⟩) k (kk+1) (q+1)):=HNEW.out _ HI2.out rfl
        clear HNEW HOLD hk1
        go_wp2_with fail
        go_roundw
        case rel=>exact ⟨kk+1,q+1,_,by omega,by omega,hkn,by go_num,by go_num,HN2⟩
        case measure=>simp [intOf]; omega
      ·obtain rfl:q=m:=by omega
       have hck:¬ c=kk:=by omega
       have hown:=HI.out.is.own
       obtain ⟨vs,hcl⟩:=run_clear_oc wr 0 g (kk*3) (n - kk) (c - kk) (by omega) (fun j hj=>by
        have hj':kk*3+j < (ensV es2).length:=by rw [ensV_len,HI.out.is.is]; omega
        rw [fam_cell hown rfl (List.getElem?_eq_getElem hj')]; rfl) (fun j hj=>fam_frozen hown rfl _)
       have HF:Hid (IsO (wr.setCells g (kk*3) vs) B (some ⟨g,0,none⟩) kk c (es2.take kk)∧es2.take kk=compE es n∧Srt B w (wr.setCells g (kk*3) vs) (some ⟨g,0,none⟩)):=by
        refine ⟨⟨by rw [List.length_take,HI.out.is.is]; omega,?_⟩,by rw [HI.out.take,hkm],HI.out.srt.puts HG.out.2 _ _⟩
        have h3:=fam_shrink (fam_puts rfl vs (kk*3) wr _ hown) (m:=kk) (by omega)
        rw [putL_take _ _ _ _ (Nat.le_refl _),ensV_take _ _ (by rw [HI.out.is.is]; omega)] at h3
        exact h3
       clear HI hown
       go_wp2_with fail
       go_ret
       exact ⟨kk,_,rfl,HF.out⟩
   ·obtain rfl:k=n:=by omega
    have HF:Hid (IsO wr B (some ⟨g,0,none⟩) k c es∧es=compE es k∧Srt B w wr (some ⟨g,0,none⟩)):=⟨HI.out.1,by rw [compE_take (by rw [HN.out]; exact Nat.le_refl _) HI.out.2.2,← HN.out,List.take_length],HI.out.2.1⟩
    clear HI
    go_wp2_with fail
    go_ret
    exact ⟨k,es,rfl,HF.out⟩
end
section
open Go.RowKit
section
variable {ι:Type} {w w':World} {vf vf':ι→Value}
structure EnO (w:World) (vf:ι→Value) (e:En):Prop where
 ws:LIo w vf e.wa e.o.ws
 pr:LIo w vf e.pa e.o.pr
 wl:e.o.ws.length≤100000
 pl:e.o.pr.length≤100000
theorem EnO.ok {e:En} (h:EnO w vf e):EnOk w e:=⟨h.ws.li,h.pr.li,h.wl,h.pl⟩
theorem EnO.moved {e:En} (h:EnO w vf e) (hm:Moved w w' vf vf'):EnO w' vf' e:=⟨h.ws.moved hm,h.pr.moved hm,h.wl,h.pl⟩
def EIo (w:World) (vf:ι→Value) (a:Option Addr) (es:List En):Prop:=∀ i,i < es.length→∃ b o,a=some ⟨b,o,none⟩∧(∀ j,j < 3→w.cell? ⟨b,o+i*3+j,none⟩=some (enC (es.getD i default) j))∧∀ q,(vf q).ownBlock≠some b
theorem EIo.ein {a:Option Addr} {es:List En} (h:EIo w vf a es):EIn w a es:=fun i hi=>by
 obtain ⟨b,o,h1,h2,_⟩:=h i hi
 exact ⟨b,o,h1,h2 0 (by omega),h2 1 (by omega),h2 2 (by omega)⟩
theorem EIo.moved {a:Option Addr} {es:List En} (h:EIo w vf a es) (hm:Moved w w' vf vf'):EIo w' vf' a es:=fun i hi=>by
 obtain ⟨b,o,h1,h2,h3⟩:=h i hi
 exact ⟨b,o,h1,fun j hj=>(hm.cell (a:=⟨b,o+i*3+j,none⟩) (lt_of_cell (h2 j hj)) h3).trans (h2 j hj),hm.out (lt_of_cell (h2 0 (by omega))) h3⟩
theorem IsO.eio {B:Nat} {a:Option Addr} {len c:Nat} {es:List En} (h:IsO w B a len c es) (ho:∀ g,(Value.slice a len c).ownBlock=some g→∀ q,(vf q).ownBlock≠some g):EIo w vf a es:=fun i hi=>by
 obtain ⟨g,cap,h1,h2,_,_⟩:=fam_block h.own (by have:=h.is; omega)
 simp only [Value.slice.injEq] at h1
 refine ⟨g,0,h1.1,fun j hj=>?_,ho g h2⟩
 have:=fam_cell h.own h2 (i:=i*3+j) (u:=enC (es.getD i default) j) (rows3_get hi hj)
 rw [show 0+i*3+j=i*3+j by omega]
 exact this
end
theorem insO_len {o:Oc}:∀ l:List Oc,(insO o l).length≤l.length+1
 | []=>by simp [insO]
 | a::l=>by
  unfold insO
  split
  ·simp
  ·split
   ·have:=insO_len (o:=o) l
    simp only [List.length_cons]
    omega
   ·simp
theorem nums_len {n:Nat} {L:Nat→Nat} {m lk rg:Nat} {mode:Int} {s:Sx} (ho:SOk n L m lk rg mode s) (hN:n≤4) (hm64:m≤64) (hlk4:lk≤4) (hrg:rg≤200) (hpl:s.prints.length≤20000):(numsX s).length≤100000:=by
 have h1:=numA_len s (rg:=rg) (fun t ht=>ho.regs t (by rw [← ho.ths]; exact ht)) (fun t ht=>ho.wlen t (by rw [← ho.ths]; exact ht)) s.ths.length (Nat.le_refl _)
 have h2:(11+rg)*s.ths.length≤211*4:=Nat.mul_le_mul (by omega) (by rw [ho.ths]; exact hN)
 have h3:=ho.words
 have h4:=ho.own
 show (s.ths.flatMap numT++s.words++s.own++s.prints).length≤100000
 rw [← numA_all]
 simp only [List.length_append]
 omega
structure Bc where
 P:Pg
 A:Nat→Option Addr
 L:Nat→Nat
 C:Nat→Nat
 X:Nat→Nat→Nat→Int
 m:Nat
 lk:Nat
 rg:Nat
 s0:Sx
structure BcOk (c:Bc) (w:World):Prop where
 n0:0 < c.P.n
 cok:COk c.P.n c.L c.X c.m c.lk c.rg
 prog:PIn w c.P.ca c.P.n c.A c.L c.C c.X
 mode:0≤c.P.mode
abbrev Bc.nx (c:Bc):Sx→List Sx:=nxX c.L c.X c.P.mode
abbrev Bc.outs (c:Bc):Sx→List Oc:=outsX c.L c.X c.P.mode
structure StOk (c:Bc) (k:Nat) (s:Sx):Prop where
 ok:SOk c.P.n c.L c.m c.lk c.rg c.P.mode s
 fell:s.fell=false
 pr:s.prints.length≤2*k
structure SpO (c:Bc) (w0 W:World) (pb:Nat) (v:Sr→Value) (d:Sd) (ea:Option Addr) (ec:Nat) (es:List En) (i N:Nat):Prop where
 sp:SpIn W w0.heap.size c.P pb v d
 ends:d.ends=.slice ea es.length ec
 ein:EIo W v ea es
 eok:∀ x,x∈es→EnO W v x
 sorted:SortedO (es.map En.o)
 wk:Wk c.nx c.outs c.s0 d.ss (fun s=>s∈d.ss.take i) (fun o=>o∈es.map En.o)
 ok:∀ k,k < d.ss.length→StOk c k (d.ss.getD k default)
 cnt:es.length≤N
 full:d.full=decide (4000 < d.ss.length)
 few:d.ss.length≤4001
 low:Below w0.heap.size w0 W
 gone:i≤d.ss.length
section
variable {c:Bc} {w0 W w':World} {pb:Nat} {v:Sr→Value} {d:Sd} {ea:Option Addr} {ec:Nat} {es:List En} {i N:Nat}
theorem SpO.below (h:SpO c w0 W pb v d ea ec es i N) (hb:Below W.heap.size W w'):SpO c w0 w' pb v d ea ec es i N :=
 ⟨h.sp.below hb,h.ends,h.ein.moved (Moved.of_below hb),fun x hx=>(h.eok x hx).moved (Moved.of_below hb),h.sorted,h.wk,h.ok,h.cnt,h.full,h.few,h.low.trans (hb.mono h.low.size),h.gone⟩
theorem SpO.more (h:SpO c w0 W pb v d ea ec es i N) {N':Nat} (hN:N≤N'):SpO c w0 W pb v d ea ec es i N' :=
 ⟨h.sp,h.ends,h.ein,h.eok,h.sorted,h.wk,h.ok,Nat.le_trans h.cnt hN,h.full,h.few,h.low,h.gone⟩
theorem SpO.mem (_h:SpO c w0 W pb v d ea ec es i N) {k:Nat} (hk:k < d.ss.length):d.ss.getD k default∈d.ss:=by
 rw [List.getD_eq_getElem?_getD,List.getElem?_eq_getElem hk]; exact List.getElem_mem hk
theorem SpO.put_end (h:SpO c w0 W pb v d ea ec es i N) {e:En} {en:Ending} (hq:PutQ W pb e es en w') (he:EnO W v e) {x:Sx} (hx:x∈d.ss) (ho:e.o∈c.outs x) :
  en=.returned (.tuple #[])∧Moved W w' v v∧∃ d' ea' ec' es',SpO c w0 w' pb v d' ea' ec' es' i (N+1)∧d'.ss=d.ss∧d'.sbs=d.sbs∧∀ y,y∈es'.map En.o↔y=e.o∨y∈es.map En.o:=by
 obtain ⟨rfl,hq⟩:=hq
 refine ⟨rfl,?_⟩
 rcases hq with ⟨hb,hins⟩ | ⟨w2,a,len,cc,es2,rfl,hb,hI,hm,hall⟩
 ·refine ⟨Moved.of_below hb,d,ea,ec,es,(h.below hb).more (by omega),rfl,rfl,fun y=>?_⟩
  rw [← mem_insO,hins]
 ·have hM:Moved W (w2.setCell ⟨pb,4,none⟩ (.slice a len cc)) v v:=(Moved.of_below hb).put (r:=.box) h.sp.bblk 4 _
  have hM2:Moved w2 (w2.setCell ⟨pb,4,none⟩ (.slice a len cc)) v v:=(Moved.refl _ _).put (r:=.box) h.sp.bblk 4 _
  have hmem:∀ y,y∈es2.map En.o↔y=e.o∨y∈es.map En.o:=fun y=>by rw [hm]; exact mem_insO
  refine ⟨hM,⟨d.sbs,d.ss,d.ks,.slice a len cc,d.full⟩,a,cc,es2,⟨⟨(h.sp.fam.below hb).put (r:=.box) h.sp.bblk 4 _ (fun q=>by cases q <;> rfl) rfl (fun q hq=>by cases q <;> first | rfl | exact absurd rfl hq),h.sp.box,h.sp.len,h.sp.klen,fun k hk=>?_,fun k hk=>?_⟩,?_,?_,fun y hy=>?_,?_,?_,h.ok,?_,h.full,h.few,?_,h.gone⟩,rfl,rfl,hmem⟩
  ·obtain ⟨B',v',h1,h2⟩:=h.sp.states k hk
   obtain ⟨h3,h4⟩:=h1.moved h2 hM
   exact ⟨B',v',h3,h4⟩
  ·obtain ⟨B',h1,h2⟩:=h.sp.keys k hk
   obtain ⟨h3,h4⟩:=h1.moved h2 hM
   exact ⟨B',h3,h4⟩
  ·show Value.slice a len cc=.slice a es2.length cc
   rw [hI.is]
  ·refine (IsO.eio hI (fun g hg q e=>?_)).moved hM2
   have h1:=(hI.own.lt g hg).1
   have h2:=h.sp.fam.lt e
   omega
  ·rcases hall y hy with rfl | hy
   ·exact he.moved hM
   ·exact (h.eok y hy).moved hM
  ·rw [hm]; exact sorted_insO h.sorted
  ·exact h.wk.out hx ho hmem
  ·have h1:=insO_len (o:=e.o) (es.map En.o)
   rw [← hm,List.length_map,List.length_map] at h1
   have h2:=h.cnt
   omega
  ·exact h.low.trans (hM.below h.low.size h.sp.fam.low)
theorem SpO.put_state (h:SpO c w0 W pb v d ea ec es i N) {xb:Nat} {sx:Sx} {en:Ending} (hq:SputQ W w0.heap.size c.P pb v d xb sx en w') (hnf:d.full=false) (hsx:StOk c d.ss.length sx) {x:Sx} (hx:x∈d.ss) (ho:sx∈c.nx x) :
  en=.returned (.tuple #[])∧∃ v' d',SpO c w0 w' pb v' d' ea ec es i N∧Moved W w' v v'∧sx∈d'.ss∧(∀ t,t∈d.ss→t∈d'.ss)∧d.ss.length≤d'.ss.length∧∀ k,k < d.ss.length→d'.ss.getD k default=d.ss.getD k default∧d'.sbs.getD k 0=d.sbs.getD k 0:=by
 obtain ⟨rfl,hq⟩:=hq
 refine ⟨rfl,?_⟩
 rcases hq with ⟨⟨k,hk,hkk⟩,hb⟩ | ⟨hno,v',ka,kc,hS,hM⟩
 ·refine ⟨v,d,h.below hb,Moved.of_below hb,?_,fun t ht=>ht,Nat.le_refl _,fun k _=>⟨rfl,rfl⟩⟩
  have e:=nums_inj (h.ok k hk).ok hsx.ok (by rw [(h.ok k hk).fell,hsx.fell]) hkk
  rw [← e]
  exact h.mem hk
 ·have hss:(d.push xb sx ka kc).ss=d.ss++[sx]:=rfl
  have hnew:sx∉d.ss:=fun hm=>by
   obtain ⟨k,hk,e⟩:=List.getElem_of_mem hm
   refine hno k hk ?_
   unfold keyL
   rw [List.getD_eq_getElem?_getD,List.getElem?_eq_getElem hk]
   exact congrArg numsX e
  have hlen:d.ss.length≤4000:=by
   have:=h.full
   rw [hnf] at this
   have:=of_decide_eq_false this.symm
   omega
  refine ⟨v',d.push xb sx ka kc,⟨hS,h.ends,h.ein.moved hM,fun y hy=>(h.eok y hy).moved hM,h.sorted,?_,fun k hk=>?_,h.cnt,?_,?_,h.low.trans (hM.below h.low.size h.sp.fam.low),?_⟩,hM,?_,fun t ht=>?_,?_,fun k hk=>⟨push_ss hk,?_⟩⟩
  ·rw [hss]
   refine (h.wk.push hx ho hnew).same (fun s=>?_) (fun _=>Iff.rfl)
   rw [List.take_append_of_le_length h.gone]
  ·rw [push_len] at hk
   rcases Nat.lt_or_ge k d.ss.length with h1 | h1
   ·rw [push_ss h1]; exact h.ok k h1
   ·obtain rfl:k=d.ss.length:=by omega
    rw [push_new]
    exact hsx
  ·rw [push_len]
   show (d.full || _)=_
   rw [hnf,Bool.false_or]
  ·rw [push_len]; omega
  ·rw [push_len]; have:=h.gone; omega
  ·rw [hss]; simp
  ·rw [hss]; exact List.mem_append_left _ ht
  ·rw [push_len]; omega
  ·show (d.sbs++[xb]).getD k 0=_
   simp [List.getD,List.getElem?_append_left (show k < d.sbs.length by rw [h.sp.len]; exact hk)]
theorem SpO.put_any (h:SpO c w0 W pb v d ea ec es i N) (hc:BcOk c w0) {Bx xb:Nat} {vx:Rl→Value} {sx:Sx} (hD:DSt W Bx c.P xb vx sx) (hxo:∀ r g,(vx r).ownBlock=some g→∀ q,(v q).ownBlock≠some g) (hnf:d.full=false) (hsx:StOk c d.ss.length sx) {x:Sx} (hx:x∈d.ss) (ho:sx∈c.nx x) :
  Calls Tryz.prog 55 #[.pointer (some ⟨pb,0,none⟩),.pointer (some ⟨xb,0,none⟩)] W fun e w'=>e=.returned (.tuple #[])∧∃ v' d',SpO c w0 w' pb v' d' ea ec es i N∧Moved W w' v v'∧sx∈d'.ss∧(∀ t,t∈d.ss→t∈d'.ss)∧d.ss.length≤d'.ss.length∧∀ k,k < d.ss.length→d'.ss.getD k default=d.ss.getD k default∧d'.sbs.getD k 0=d.sbs.getD k 0:=by
 have hf:=h.few
 refine Calls.mono (sput_any W w0.heap.size c.P pb v d c.L c.m c.lk c.rg Bx xb vx sx h.sp hD hxo hsx.ok hc.n0 hc.cok.n4 hc.cok.m64 hc.cok.lk4 hc.cok.rg2 (by have:=hsx.pr; omega) (by omega) (fun k hk=>?_)) (fun e w' hq=>h.put_state hq hnf hsx hx ho)
 have:=h.ok k hk
 exact nums_len this.ok hc.cok.n4 hc.cok.m64 hc.cok.lk4 hc.cok.rg2 (by have:=this.pr; omega)
theorem SpO.Put_any (h:SpO c w0 W pb v d ea ec es i N) {e:En} (he:EnO W v e) {x:Sx} (hx:x∈d.ss) (ho:e.o∈c.outs x) (hi4:i≤4000) (hN:N≤16*i+16) :
  Calls Tryz.prog 58 #[.pointer (some ⟨pb,0,none⟩),enV e] W fun en w'=>en=.returned (.tuple #[])∧Moved W w' v v∧∃ d' ea' ec' es',SpO c w0 w' pb v d' ea' ec' es' i (N+1)∧d'.ss=d.ss∧d'.sbs=d.sbs∧∀ y,y∈es'.map En.o↔y=e.o∨y∈es.map En.o:=by
 have c4:=h.sp.c4
 rw [h.ends] at c4
 exact Calls.mono (oput_any W pb ea ec es e c4 (h.sp.fam.frozen h.sp.bblk 4) h.ein.ein (fun x hx=>(h.eok x hx).ok) he.ok h.sorted (by have:=h.cnt; omega)) (fun en w' hq=>h.put_end hq he hx ho)
theorem SpO.goneOn (h:SpO c w0 W pb v d ea ec es i N) (hi:i < d.ss.length) (hn:∀ t,t∈c.nx (d.ss.getD i default)→t∈d.ss) (ho:∀ o,o∈c.outs (d.ss.getD i default)→o∈es.map En.o):SpO c w0 W pb v d ea ec es (i+1) N :=
 ⟨h.sp,h.ends,h.ein,h.eok,h.sorted,h.wk.gone (h.mem hi) hn ho (fun s hs=>by
  rw [List.take_add_one,List.getElem?_eq_getElem hi] at hs
  rcases List.mem_append.mp hs with hs | hs
  ·exact Or.inr hs
  ·refine Or.inl ?_
   rw [List.getD_eq_getElem?_getD,List.getElem?_eq_getElem hi]
   exact List.mem_singleton.mp hs),h.ok,h.cnt,h.full,h.few,h.low,hi⟩
theorem SpO.start (hS:SpIn W w0.heap.size c.P pb v d0) (hb:Below w0.heap.size w0 W) (hsx:StOk c 0 c.s0) {xb:Nat} {en:Ending} (hq:SputQ W w0.heap.size c.P pb v d0 xb c.s0 en w'):en=.returned (.tuple #[])∧∃ v' d',SpO c w0 w' pb v' d' none 0 [] 0 0:=by
 obtain ⟨rfl,hq⟩:=hq
 refine ⟨rfl,?_⟩
 rcases hq with ⟨⟨k,hk,_⟩,_⟩ | ⟨_,v',ka,kc,hS',hM⟩
 ·exact absurd hk (Nat.not_lt_zero _)
 ·refine ⟨v',d0.push xb c.s0 ka kc,hS',rfl,fun i hi=>absurd hi (Nat.not_lt_zero _),fun x hx=>(by cases hx),List.Pairwise.nil,?_,fun k hk=>?_,Nat.le_refl _,rfl,by rw [push_len]; decide,hb.trans (hM.below hb.size hS.fam.low),Nat.zero_le _⟩
  ·exact Wk.begin.same (fun s=>by simp) (fun o=>by simp)
  ·rw [push_len] at hk
   obtain rfl:k=0:=by have:d0.ss.length=0:=rfl; omega
   exact hsx
theorem SpO.told (h:SpO c w0 W pb v d ea ec es i N) (hi:d.full=false→i=d.ss.length):Told c.nx c.outs c.s0 4000 d.full (es.map En.o)∧(d.full=false→∀ s,s∈d.ss↔Rch c.nx c.s0 s):=by
 cases hf:d.full with
 | true =>
  have:=h.full
  rw [hf] at this
  exact ⟨h.wk.full _ (of_decide_eq_true this.symm),fun h=>by cases h⟩
 | false =>
  have h1:=h.full
  rw [hf] at h1
  have h2:=of_decide_eq_false h1.symm
  have hP:∀ s,s∈d.ss→s∈d.ss.take i:=fun s hs=>by rw [hi hf,List.take_length]; exact hs
  exact ⟨h.wk.told hP h.sorted (fun o=>Iff.rfl) (by omega),fun _=>(h.wk.whole hP).1⟩
theorem SpO.stB (h:SpO c w0 W pb v d ea ec es i N) (hn:0 < d.ss.length):∃ hb hc,v .st=.slice (some ⟨hb,0,none⟩) d.ss.length hc∧(v .st).ownBlock=some hb:=by
 obtain ⟨g,c,h1,h2,_,_⟩:=fam_block (h.sp.fam.own .st) (by exact hn)
 exact ⟨g,c,h1,h2⟩
theorem SpO.stC (h:SpO c w0 W pb v d ea ec es i N) {hb k:Nat} (e:(v .st).ownBlock=some hb) (hk:k < d.ss.length):W.cell? ⟨hb,k,none⟩=some (.pointer (some ⟨d.sbs.getD k 0,0,none⟩)):=by
 refine h.sp.fam.cell e ?_
 show (d.sbs.map fun b=>Value.pointer (some ⟨b,0,none⟩))[k]? = _
 have hk':k < d.sbs.length:=by rw [h.sp.len]; exact hk
 rw [List.getElem?_map,List.getElem?_eq_getElem hk',List.getD_eq_getElem?_getD,List.getElem?_eq_getElem hk']
 rfl
end
theorem dst_eno {ι:Type} {W:World} {vf:ι→Value} {B:Nat} {P:Pg} {xb:Nat} {vx:Rl→Value} {s:Sx} (hD:DSt W B P xb vx s) (ho:∀ r g,(vx r).ownBlock=some g→∀ q,(vf q).ownBlock≠some g) (st:Int) (hw:s.words.length≤100000) (hp:s.prints.length≤100000) :
  ∃ wa wc pa pc,vx .words=.slice wa s.words.length wc∧vx .prints=.slice pa s.prints.length pc∧EnO W vf ⟨⟨st,s.words,s.prints⟩,wa,wc,pa,pc⟩∧EnO W vf ⟨⟨st,[],s.prints⟩,none,0,pa,pc⟩:=by
 obtain ⟨wa,wc,h1⟩:=hD.wordsV
 obtain ⟨pa,pc,h2⟩:=hD.printsV
 have lw:LIo W vf wa s.words:=fun i hi=>by
  obtain ⟨g,c,e1,e2,_⟩:=hD.wordsB (by omega)
  rw [h1] at e1
  simp only [Value.slice.injEq] at e1
  exact ⟨g,0,e1.1,by simpa using hD.word e2 hi,ho _ g e2⟩
 have lp:LIo W vf pa s.prints:=fun i hi=>by
  obtain ⟨g,c,e1,e2,_,_⟩:=fam_block (hD.fam.own .prints) (by show 0 < s.prints.length; omega)
  rw [h2] at e1
  simp only [Value.slice.injEq] at e1
  exact ⟨g,0,e1.1,by simpa using hD.fam.cell e2 (intsV_at hi),ho _ g e2⟩
 exact ⟨wa,wc,pa,pc,h1,h2,⟨lw,lp,hw,hp⟩,⟨fun i hi=>absurd hi (Nat.not_lt_zero _),lp,Nat.zero_le _,hp⟩⟩
end
end Go.Proofs.YtelckcpjmekgcacGreatDoor
