import Derived.Test.YtelckcpjmekgcacGreatDoorPNew
import Derived.Shelf.Abstract
import Derived.Shelf.RegionOpen
import Derived.OwnWalkIn
import Derived.TacticsInMore
import Derived.LoopNIn
import Derived.LoopIn
namespace Go.Proofs.YtelckcpjmekgcacGreatDoor
set_option maxHeartbeats 2000000
set_option maxRecDepth 100000
section
open Go.RowKit
theorem infoStore:(Tryz.prog.info? 268).map (fun i=>(i.zero,i.size,i.bytes))=some (some (.agg #[.bool false,.int .i64 0,.int .i64 0]),3,24):=by kernel_rfl
attribute [local go_sem ↓] appS_eq
theorem put_any (w:World) (B:Nat) (Q:Cd) (sb mb:Nat) (v:Rp→Value) (s:Sx) (t:Nat) (x:Wt) (hK:Q.K=bufK) (hp:MPre w B Q sb mb v s t) (hw:(thOf s t).wait.length < 3) :
  Calls Tryz.prog 203 #[.pointer (some ⟨Q.bb,0,none⟩),.int .i64 t,.agg #[.bool x.lk,.int .i64 x.wh,.int .i64 x.what]] w (ChgQ B Q sb mb v w (storeW 1 s t x) (.tuple #[])):=by
 have hst:storeW 1 s t x=setTh s t { thOf s t with wait:=(thOf s t).wait++[x] }:=by unfold storeW; rw [if_pos (by omega)]
 rw [hst]
 have hb:=buf_bf hK
 have hs:=hp.hs
 have hnt:=hp.hn
 have htl:=hp.ht
 have hn4:=hp.h4
 have hB:=hp.hB
 obtain ⟨lk,wh,what⟩:=x
 simp only
 obtain ⟨lb,lc,hlv,hlb,hllb⟩:=hs.bufsB hb (by omega)
 obtain ⟨qa,qc,hq⟩:=hs.bufV hb t
 have b1:=hs.b1 hb
 rw [hlv] at b1
 have bq:=hs.bufc hb hlb (t:=t) (by omega)
 rw [hq] at bq
 have bf:=hs.fam.frozen hlb t
 have hsty:Q.K.sty=268:=by rw [hK]; rfl
 have hbelow:Below w.heap.size w (w.alloc (.cells #[.bool lk,.int .i64 wh,.int .i64 what] 268)).drew:=((Below.refl _ _).alloc (Nat.le_refl _) _).drew
 have hown:=hs.bufO hb t
 rw [hsty] at hown
 obtain ⟨g,cap,w3,hr1,hr2,hr3,hr4⟩:=app_row (T:=263) Tryz.underlying263 infoStore rfl (by omega) hown hbelow hB 1 #[.bool lk,.int .i64 wh,.int .i64 what] rfl (by simp [Value.oneCell']) (by omega) (by omega) (by omega)
 have hne1:some Q.bb≠(v (.buf t)).ownBlock:=fun e=>absurd (hs.fam.apart _ _ Q.bb (hs.bbox hb) e.symm) (by simp)
 have hne2:some lb≠(v (.buf t)).ownBlock:=fun e=>absurd (hs.fam.apart _ _ lb hlb e.symm) (by simp)
 have q1:=hr3.cell (cell_up2 b1 (.cells #[.bool lk,.int .i64 wh,.int .i64 what] 268) (.cells #[.bool lk,.int .i64 wh,.int .i64 what] 268)) hne1
 have qq:=hr3.cell (cell_up2 bq (.cells #[.bool lk,.int .i64 wh,.int .i64 what] 268) (.cells #[.bool lk,.int .i64 wh,.int .i64 what] 268)) hne2
 have qf:w3.frozen? ⟨lb,t,none⟩=false:=(hr3.frozen_far ⟨lb,t,none⟩ (by simp; omega) hne2).trans (frozen_up2 hllb bf _ _)
 have hlen:((thOf s t).wait++[(⟨lk,wh,what⟩:Wt)]).length=(thOf s t).wait.length+1:=by simp
 have hcells:waitV (thOf s t).wait++#[Value.bool lk,.int .i64 wh,.int .i64 what].toList=waitV ((thOf s t).wait++[⟨lk,wh,what⟩]):=by rw [waitV_snoc]
 rw [hcells] at hr2
 have hr2':w3.ownsRow B Q.K.sty 3 (.slice (some ⟨g,0,none⟩) ((thOf s t).wait++[(⟨lk,wh,what⟩:Wt)]).length cap) ((thOf s t).wait++[(⟨lk,wh,what⟩:Wt)]).length (waitV ((thOf s t).wait++[⟨lk,wh,what⟩])):=by rw [hlen,hsty]; exact hr2
 have hbel2:Below w.heap.size w ((w.alloc (.cells #[.bool lk,.int .i64 wh,.int .i64 what] 268)).drew.alloc (.cells #[.bool lk,.int .i64 wh,.int .i64 what] 268)):=hbelow.alloc hbelow.size _
 have hD:=(hs.below hbel2).newBuf hb hlb htl (by omega) hr2' hr3 hr4 (by simp)
 have hM:=((Moved.of_below (v:=v) hbel2).grow (r:=.buf t) (m:=(thOf s t).wait.length+1) (c:=cap) hr3 hr4 (by simp)).put (r:=.bufs) (g:=lb) (by rw [upd_ne _ _ (by simp)]; exact hlb) t (.slice (some ⟨g,0,none⟩) ((thOf s t).wait.length+1) cap)
 rw [hlen] at hD
 have HF:Hid (ChgQ B Q sb mb v w (setTh s t { thOf s t with wait:=(thOf s t).wait++[⟨lk,wh,what⟩] }) (.tuple #[]) (.returned (.tuple #[])) (w3.setCell ⟨lb,t,none⟩ (.slice (some ⟨g,0,none⟩) ((thOf s t).wait.length+1) cap))):=⟨rfl,_,hD,hM,upd_ne _ _ (by simp),upd_ne _ _ (by simp),upd_ne _ _ (by simp),fun u=>upd_ne _ _ (by simp)⟩
 have hrun:(AppS #[263,263] 263 #[.slice qa (thOf s t).wait.length qc,.slice (some ⟨w.heap.size+1,0,none⟩) 1 1]).run Tryz.prog ((w.alloc (.cells #[.bool lk,.int .i64 wh,.int .i64 what] 268)).alloc (.cells #[.bool lk,.int .i64 wh,.int .i64 what] 268)).drew=.ok (.slice (some ⟨g,0,none⟩) ((thOf s t).wait.length+1) cap) w3:=by
  have e:(w.alloc (.cells #[.bool lk,.int .i64 wh,.int .i64 what] 268)).drew.heap.size=w.heap.size+1:=by simp
  rw [hq,e] at hr1
  exact hr1
 have k1:=cell_up b1
 have kq:=cell_up bq
 have k12:=cell_up2 b1
 have kq2:=cell_up2 bq
 obtain ⟨n,hn⟩:∃ m,Q.nt=m:=⟨_,rfl⟩
 rw [hn] at b1 k1 k12 q1 hnt
 have htn:t < n:=by omega
 have hn44:n≤4:=by omega
 obtain ⟨k,hk⟩:∃ m,(thOf s t).wait.length=m:=⟨_,rfl⟩
 rw [hk] at bq kq kq2 qq hrun HF hw
 clear hp hs hst hlv hlb hq bf hbelow hown hr1 hr2 hr3 hr4 hne1 hne2 hlen hcells hr2' hbel2 hD hM hn hk hnt htl hn4
 go_enter Tryz.func203,Tryz.ntmps203
 go_wp2
 go_region
 all_goals go_wp2
 all_goals go_end0
 all_goals exact HF.out
theorem bstore_any (w:World) (B:Nat) (Q:Cd) (sb mb:Nat) (v:Rp→Value) (s:Sx) (t:Nat) (x y:Int) (hK:Q.K=bufK) (hp:MPre w B Q sb mb v s t) (hw:(thOf s t).wait.length < 3) :
  Calls Tryz.prog 196 #[.pointer (some ⟨Q.bb,0,none⟩),.int .i64 t,.int .i64 x,.int .i64 y] w (ChgQ B Q sb mb v w (storeW 1 s t ⟨false,x,y⟩) (.tuple #[])):=by
 have HP:=hiD (put_any w B Q sb mb v s t ⟨false,x,y⟩ hK hp hw)
 have lbb:Q.bb < w.heap.size:=lt_of_cell (hp.hs.b1 (buf_bf hK))
 clear hp hw
 go_enter Tryz.func196,Tryz.ntmps196
 go_wp2_with fail
 refine Calls.mono HP.out ?_
 rintro e w1 ⟨rfl,h1⟩
 go_wp2_with fail
 go_end0
 exact ⟨rfl,h1⟩
theorem bwaiting_any (w:World) (B:Nat) (Q:Cd) (sb mb:Nat) (v:Rp→Value) (s:Sx) (t fid:Nat) (caps:Array Value) (I:Nat→World→Prop) (hK:Q.K=bufK) (kF:∀ (xs:Array Value) (w:World),(callFunc fid xs).run Tryz.prog w=.ok (.enter fid xs) w) (hp:MPre w B Q sb mb v s t) (hI:∀ j W k,I j W→I j (W.drewN k)) (h0:I 0 w)
  (hC:∀ j W,j < (placesW 1 (thOf s t).wait).length→I j W→Calls Tryz.prog fid (#[.int .i64 ((placesW 1 (thOf s t).wait).getD j 0:Nat)]++caps) W fun e W'=>e=.returned (.tuple #[])∧I (j+1) W') :
  Calls Tryz.prog 199 #[.pointer (some ⟨Q.bb,0,none⟩),.int .i64 t,.func (.func fid) #[] caps] w fun e w'=>e=.returned (.tuple #[])∧I (placesW 1 (thOf s t).wait).length w':=by
 have hb:=buf_bf hK
 have hs:=hp.hs
 have hnt:=hp.hn
 have htl:=hp.ht
 have hw3:=hp.hw
 have hn4:=hp.h4
 obtain ⟨lb,lc,hlv,hlb,hllb⟩:=hs.bufsB hb (by omega)
 obtain ⟨qa,qc,hq⟩:=hs.bufV hb t
 have b1:=hs.b1 hb
 rw [hlv] at b1
 have bq:=hs.bufc hb hlb (t:=t) (by omega)
 rw [hq] at bq
 obtain ⟨n,hn⟩:∃ m,Q.nt=m:=⟨_,rfl⟩
 rw [hn] at b1 hnt
 have htn:t < n:=by omega
 have hn44:n≤4:=by omega
 have hpl:placesW 1 (thOf s t).wait=if (thOf s t).wait.length=0 then [] else [0]:=by
  unfold placesW
  generalize (thOf s t).wait=l at hw3 ⊢
  match l,hw3 with
  | [],_=>rfl
  | [a],_=>rfl
  | [a,b],_=>rfl
  | [a,b,c],_=>rfl
 rw [hpl] at hC ⊢
 obtain ⟨k,hk⟩:∃ m,(thOf s t).wait.length=m:=⟨_,rfl⟩
 rw [hk] at bq hw3 hC ⊢
 by_cases hk0:k=0
 ·subst hk0
  simp only [if_true,List.length_nil]
  have HI0:Hid (∀ k,I 0 (w.drewN k)):=fun k=>hI 0 w k h0
  have HI1:Hid (I 0 w):=h0
  clear hp hs hlv hlb hq hn hk hnt htl hn4 hC hI h0 hpl
  go_enter Tryz.func199,Tryz.ntmps199
  go_wp2
  go_end0
  exact ⟨rfl,HI1.out⟩
 ·rw [if_neg hk0] at hC ⊢
  have HC:Hid (Calls Tryz.prog fid (#[.int .i64 0]++caps) w fun e W'=>e=.returned (.tuple #[])∧I 1 W'):=hC 0 w (by simp) h0
  have hkp:0 < k:=by omega
  clear hp hs hlv hlb hq hn hk hnt htl hn4 hC hI h0 hpl hk0
  go_enter Tryz.func199,Tryz.ntmps199
  go_wp2_with fail
  refine Calls.mono HC.out ?_
  rintro e w1 ⟨rfl,h1⟩
  go_wp2_with fail
  go_end0
  exact ⟨rfl,h1⟩
end
section
open Go.RowKit
theorem mem_getD {l:List Wt} {k:Nat} {x:Wt} (hk:k < l.length) (h:l.getD k default=x):x∈l:=by
 have:l.getD k default=l[k]:=by simp [List.getD,hk]
 rw [← h,this]
 exact List.getElem_mem _
theorem sindex_any (w:World) (qa:Option Addr) (qc:Nat) (l:List Wt) (x:Wt) (hq:WIn w qa l) (hl:l.length≤100) :
  Calls Tryz.prog 209 #[.slice qa l.length qc,.agg #[.bool x.lk,.int .i64 x.wh,.int .i64 x.what]] w fun e w'=>(∃ r:Int,e=.returned (.int .i64 r)∧(0≤r↔x∈l))∧Below w.heap.size w w':=by
 obtain ⟨n,hn⟩:∃ n,l.length=n:=⟨_,rfl⟩
 have HN:Hid (l.length=n):=hn
 rw [hn] at hl ⊢
 obtain ⟨lk,wh,what⟩:=x
 simp only
 have hq':=hq.below ((Below.refl w.heap.size w).alloc (Nat.le_refl _) (.cells #[.bool lk,.int .i64 wh,.int .i64 what] 268))
 have HB0:Hid (∀ W,Below (w.heap.size+1) (w.alloc (.cells #[.bool lk,.int .i64 wh,.int .i64 what] 268)) W→Below w.heap.size w W):=fun W h=>((Below.refl w.heap.size w).alloc (Nat.le_refl _) _).trans (h.mono (by omega))
 have HBX:Hid (∀ W,Below (w.heap.size+1) (w.alloc (.cells #[.bool lk,.int .i64 wh,.int .i64 what] 268)) W→W.cell? ⟨w.heap.size,0,none⟩=some (.bool lk)∧W.cell? ⟨w.heap.size,1,none⟩=some (.int .i64 wh)∧W.cell? ⟨w.heap.size,2,none⟩=some (.int .i64 what)):=fun W h=>⟨(h.cell (p:=⟨w.heap.size,0,none⟩) (by show w.heap.size < _; omega)).trans (World.cell?_alloc_new _ _ _ _),(h.cell (p:=⟨w.heap.size,1,none⟩) (by show w.heap.size < _; omega)).trans (World.cell?_alloc_new _ _ _ _),(h.cell (p:=⟨w.heap.size,2,none⟩) (by show w.heap.size < _; omega)).trans (World.cell?_alloc_new _ _ _ _)⟩
 have HQ:Hid (∀ W,Below (w.heap.size+1) (w.alloc (.cells #[.bool lk,.int .i64 wh,.int .i64 what] 268)) W→WIn W qa l):=fun W h=>hq'.below (by rw [World.size_alloc]; exact h)
 clear hn hq hq'
 go_enter Tryz.func209,Tryz.ntmps209
 go_wp2
 go_loopw [8] (fun i wr=>∃ k:Nat,k≤n∧i=.int .i64 k∧Hid (∀ p,p < k→l.getD p default≠⟨lk,wh,what⟩)∧Below (w.heap.size+1) (w.alloc (.cells #[.bool lk,.int .i64 wh,.int .i64 what] 268)) wr) (fun i _=>n - (intOf i).toNat)
 case atStart=>exact ⟨0,Nat.zero_le _,rfl,fun p hp=>absurd hp (Nat.not_lt_zero _),Below.refl _ _⟩
 case round =>
  obtain ⟨k,hk,rfl,HJ,hbr⟩:=hrel
  obtain ⟨d0,d1,d2⟩:=HBX.out _ hbr
  by_cases hlt:k < n
  ·obtain ⟨b,o,rfl,c0,c1,c2⟩:=HQ.out _ hbr k (by rw [HN.out]; exact hlt)
   obtain ⟨y,hy⟩:∃ y,l.getD k default=y:=⟨_,rfl⟩
   have HY:Hid (l.getD k default=y):=hy
   rw [hy] at c0 c1 c2
   clear hy
   obtain ⟨lk',wh',what'⟩:=y
   simp only at c0 c1 c2
   by_cases he:(⟨lk',wh',what'⟩:Wt)=⟨lk,wh,what⟩
   ·simp only [Wt.mk.injEq] at he
    obtain ⟨rfl,rfl,rfl⟩:=he
    go_wp2
    go_region
    all_goals go_wp2
    all_goals go_ret
    all_goals refine ⟨⟨_,rfl,?_⟩,(HB0.out _ hbr).drew⟩
    all_goals exact ⟨fun _=>mem_getD (by rw [HN.out]; exact hlt) HY.out,fun _=>by omega⟩
   ·have HE:Hid (∀ p,p < k+1→l.getD p default≠⟨lk,wh,what⟩):=fun p hp=>by
     rcases (by omega:p < k∨p=k) with h | rfl
     ·exact HJ.out p h
     ·rw [HY.out]; exact he
    by_cases e1:lk=lk'
    ·subst e1
     by_cases e2:wh=wh'
     ·subst e2
      have e3:¬ what=what':=fun e=>he (by rw [e])
      clear he
      go_wp2
      go_region
      all_goals go_wp2
      all_goals go_roundw
      case rel=>exact ⟨k+1,by omega,by go_num,HE,hbr.drew⟩
      case measure=>simp [intOf]; omega
     ·clear he
      go_wp2
      go_region
      all_goals go_wp2
      all_goals go_roundw
      case rel=>exact ⟨k+1,by omega,by go_num,HE,hbr.drew⟩
      case measure=>simp [intOf]; omega
    ·clear he
     go_wp2
     go_region
     all_goals go_wp2
     all_goals go_roundw
     case rel=>exact ⟨k+1,by omega,by go_num,HE,hbr.drew⟩
     case measure=>simp [intOf]; omega
  ·go_wp2
   go_ret
   refine ⟨⟨_,rfl,?_⟩,HB0.out _ hbr⟩
   refine ⟨fun h=>absurd h (by decide),fun h=>?_⟩
   obtain ⟨p,hp,e⟩:=List.getElem_of_mem h
   have hpk:p < k:=by have:=HN.out; omega
   exact absurd (by simp [List.getD,List.getElem?_eq_getElem hp,e]) (HJ.out p hpk)
theorem scontains_any (w:World) (qa:Option Addr) (qc:Nat) (l:List Wt) (x:Wt) (hq:WIn w qa l) (hl:l.length≤100) :
  Calls Tryz.prog 205 #[.slice qa l.length qc,.agg #[.bool x.lk,.int .i64 x.wh,.int .i64 x.what]] w fun e w'=>e=.returned (.bool (decide (x∈l)))∧Below w.heap.size w w':=by
 have HI:=hiD (fun W (e:Below w.heap.size w W)=>sindex_any W qa qc l x (hq.below e) hl)
 obtain ⟨b,hb⟩:∃ b,decide (x∈l)=b:=⟨_,rfl⟩
 have HBB:Hid (decide (x∈l)=b):=hb
 rw [hb]
 obtain ⟨n,hn⟩:∃ n,l.length=n:=⟨_,rfl⟩
 rw [hn] at HI ⊢
 have HB0:Hid (∀ o,Below w.heap.size w (w.alloc o)):=fun o=>(Below.refl _ _).alloc (Nat.le_refl _) _
 clear hq hl hb hn
 go_enter Tryz.func205,Tryz.ntmps205
 go_wp2_with fail
 refine Calls.mono (HI.out _ (by first | exact Below.refl _ _ | exact HB0.out _)) ?_
 rintro e w1 ⟨⟨r,rfl,hr⟩,hb1⟩
 have HR:=hiD hr
 clear hr
 go_wp2
 go_ret
 refine ⟨ret_bool ?_,?_⟩
 ·rw [← HBB.out]
  exact decide_eq_decide.2 HR.out
 ·first | exact hb1 | exact (HB0.out _).trans (hb1.mono (by simp))
end
section
open Go.RowKit
theorem QSt.bwin {w:World} {B:Nat} {Q:Cd} {sb mb:Nat} {v:Rp→Value} {s:Sx} (h:QSt w B Q sb mb v s) (hb:Q.K.bf=true) {t:Nat} {a:Option Addr} {c:Nat} (hv:v (.buf t)=.slice a (thOf s t).wait.length c):WIn w a (thOf s t).wait:=fun i hi=>by
 have hown:=h.bufO hb t
 obtain ⟨g,cap,h1,h2,_,_⟩:=fam_block hown (by omega)
 rw [hv] at h1
 simp only [Value.slice.injEq] at h1
 have hc:∀ j,j < 3→w.cell? ⟨g,i*3+j,none⟩=some (waitC ((thOf s t).wait.getD i default) j):=fun j hj=>fam_cell hown h2 (by unfold waitV; exact rows3_get hi hj)
 exact ⟨g,0,h1.1,by simpa [waitC] using hc 0 (by omega),by simpa [waitC] using hc 1 (by omega),by simpa [waitC] using hc 2 (by omega)⟩
theorem frees_any {l:List Wt} (hz:∀ x,x∈l→x.lk=true→x.what=0) (a:Int):decide ((⟨true,a,0⟩:Wt)∈l)=l.any fun z=>z.lk && decide (z.wh=a):=by
 rw [Bool.eq_iff_iff]
 simp only [decide_eq_true_eq,List.any_eq_true,Bool.and_eq_true]
 constructor
 ·intro h
  exact ⟨_,h,rfl,rfl⟩
 ·rintro ⟨x,hx,h1,h2⟩
  have h3:=hz x hx h1
  obtain ⟨lk,wh,what⟩:=x
  simp only at h1 h2 h3
  subst h1 h2 h3
  exact hx
theorem bunlock_any (w:World) (B:Nat) (Q:Cd) (sb mb:Nat) (v:Rp→Value) (s:Sx) (t x:Nat) (hK:Q.K=bufK) (hp:MPre w B Q sb mb v s t) (hx:x < s.own.length) (b:Bool) (hb2:((thOf s t).wait.any fun z=>z.lk && decide (z.wh=(x:Int)))=b) (hown:Bool) (ho:decide (s.own.getD x 0=(t:Int))=hown) (hroom:hown=true→b=false→(thOf s t).wait.length < 3) :
  Calls Tryz.prog 198 #[.pointer (some ⟨Q.bb,0,none⟩),.int .i64 t,.int .i64 x] w fun e w'=>(hown=true∧b=false→ChgQ B Q sb mb v w (storeW 1 s t ⟨true,x,0⟩) (.bool true) e w')∧(hown=false∨b=true→e=.returned (.bool false)∧Below w.heap.size w w'):=by
 have hb:=buf_bf hK
 have hs:=hp.hs
 have hnt:=hp.hn
 have htl:=hp.ht
 have hw3:=hp.hw
 have hn4:=hp.h4
 obtain ⟨lb,lc,hlv,hlb,hllb⟩:=hs.bufsB hb (by omega)
 obtain ⟨qa,qc,hq⟩:=hs.bufV hb t
 have b0:=hs.b0 hb
 have b1:=hs.b1 hb
 rw [hlv] at b1
 have bq:=hs.bufc hb hlb (t:=t) (by omega)
 rw [hq] at bq
 have HHO:Hid (∀ W,Below w.heap.size w W→Calls Tryz.prog 191 #[.pointer (some ⟨mb,0,none⟩),.int .i64 t,.int .i64 x] W fun e w'=>e=.returned (.bool hown)∧W=w'):=fun W h=>by
  have:=holds_any W B Q sb mb v s t x (hs.below h) hp.hl hx
  rwa [ho] at this
 have HCO:Hid (∀ W,Below w.heap.size w W→Calls Tryz.prog 205 #[.slice qa (thOf s t).wait.length qc,.agg #[.bool true,.int .i64 (x:Int),.int .i64 0]] W fun e w'=>e=.returned (.bool b)∧Below W.heap.size W w'):=fun W h=>by
  have:=scontains_any W qa qc (thOf s t).wait ⟨true,x,0⟩ ((hs.bwin hb hq).below h) (by omega)
  rwa [frees_any (fun y hy=>(hp.hok y hy).2),hb2] at this
 have HPU:Hid (hown=true→b=false→∀ W,Below w.heap.size w W→Calls Tryz.prog 203 #[.pointer (some ⟨Q.bb,0,none⟩),.int .i64 t,.agg #[.bool true,.int .i64 (x:Int),.int .i64 0]] W (ChgQ B Q sb mb v w (storeW 1 s t ⟨true,x,0⟩) (.tuple #[]))):=fun h1 h2 W h=>(put_any W B Q sb mb v s t ⟨true,x,0⟩ hK (hp.below h) (hroom h1 h2)).mono fun e w' ⟨g1,v',g2,g3,g4⟩=>⟨g1,v',g2,(Moved.of_below h).trans g3,g4⟩
 have hBel:∀ o,Below w.heap.size w (w.alloc o):=fun o=>(Below.refl _ _).alloc (Nat.le_refl _) _
 obtain ⟨n,hn⟩:∃ m,Q.nt=m:=⟨_,rfl⟩
 rw [hn] at b1 hnt
 have htn:t < n:=by omega
 have hn44:n≤4:=by omega
 obtain ⟨k,hk⟩:∃ m,(thOf s t).wait.length=m:=⟨_,rfl⟩
 rw [hk] at bq HCO hw3
 have d0:=cell_up b0
 have d1:=cell_up b1
 have dq:=cell_up bq
 have lbb:Q.bb < w.heap.size:=lt_of_cell b0
 have HBEL:=hiD hBel
 have hO:∀ i u,(#[Value.bool true,.int .i64 (x:Int),.int .i64 0]:Array Value)[i]? = some u→(w.alloc (.cells #[.bool true,.int .i64 (x:Int),.int .i64 0] 268)).cell? ⟨w.heap.size,i,none⟩=some u:=fun i u h=>by rw [World.cell?_alloc_new,h]
 have o0:(w.alloc (.cells #[.bool true,.int .i64 (x:Int),.int .i64 0] 268)).cell? ⟨w.heap.size,0,none⟩=some (.bool true):=hO 0 _ rfl
 have o1:(w.alloc (.cells #[.bool true,.int .i64 (x:Int),.int .i64 0] 268)).cell? ⟨w.heap.size,1,none⟩=some (.int .i64 (x:Int)):=hO 1 _ rfl
 have o2:(w.alloc (.cells #[.bool true,.int .i64 (x:Int),.int .i64 0] 268)).cell? ⟨w.heap.size,2,none⟩=some (.int .i64 0):=hO 2 _ rfl
 have e0:=d0 (.cells #[.bool true,.int .i64 (x:Int),.int .i64 0] 268)
 have e1:=d1 (.cells #[.bool true,.int .i64 (x:Int),.int .i64 0] 268)
 have eq:=dq (.cells #[.bool true,.int .i64 (x:Int),.int .i64 0] 268)
 clear hp hs hlv hlb hq hn hk hnt htl hn4 hb2 ho hroom hBel hO
 go_enter Tryz.func198,Tryz.ntmps198
 go_wp2_with fail
 cases hown with
 | false =>
  go_quiet ((go_at_call 191; refine Calls.mono (HHO.out _ (below_drewN (HBEL.out _))) ?_; rintro e w4 ⟨rfl,rfl⟩; exact ⟨rfl,_,rfl⟩))
  go_wp2
  go_ret
  first | exact ⟨rfl,below_drewN (HBEL.out _)⟩ | exact ⟨fun h=>absurd h.1 (by decide),fun _=>⟨rfl,below_drewN (HBEL.out _)⟩⟩
 | true =>
  go_region_held3 (fun w'=>w'.cell? ⟨Q.bb,0,none⟩=some (.pointer (some ⟨mb,0,none⟩))∧w'.cell? ⟨Q.bb,1,none⟩=some (.slice (some ⟨lb,0,none⟩) n lc)∧w'.cell? ⟨lb,t,none⟩=some (.slice qa k qc)∧w'.cell? ⟨w.heap.size,0,none⟩=some (.bool true)∧w'.cell? ⟨w.heap.size,1,none⟩=some (.int .i64 (x:Int))∧w'.cell? ⟨w.heap.size,2,none⟩=some (.int .i64 0)) (refine ⟨?_,?_,?_,?_,?_,?_⟩ <;> (first | assumption | (refine cell_drew ?_; assumption))) (first | (go_at_call 191; refine Calls.mono (HHO.out _ (by repeat (first | exact HBEL.out _ | refine Below.drew ?_))) ?_; rintro e w4 ⟨rfl,rfl⟩) | (go_at_call 205; refine Calls.mono (HCO.out _ (by repeat (first | exact HBEL.out _ | refine Below.drew ?_))) ?_; rintro e w5 ⟨rfl,hb5⟩; have z0:=(hb5.cell (p:=⟨Q.bb,0,none⟩) (lt_of_cell e0)).trans e0; have z1:=(hb5.cell (p:=⟨Q.bb,1,none⟩) (lt_of_cell e1)).trans e1; have zq:=(hb5.cell (p:=⟨lb,t,none⟩) (lt_of_cell eq)).trans eq; have y0:=(hb5.cell (p:=⟨w.heap.size,0,none⟩) (lt_of_cell o0)).trans o0; have y1:=(hb5.cell (p:=⟨w.heap.size,1,none⟩) (lt_of_cell o1)).trans o1; have y2:=(hb5.cell (p:=⟨w.heap.size,2,none⟩) (lt_of_cell o2)).trans o2; have HB5:Hid (Below w.heap.size w w5):=(HBEL.out (.cells #[.bool true,.int .i64 (x:Int),.int .i64 0] 268)).drew.trans (hb5.mono (by show _≤(w.alloc (.cells #[.bool true,.int .i64 (x:Int),.int .i64 0] 268)).heap.size; simp)); clear hb5))
  all_goals cases b with
  | true =>
   go_wp2
   go_ret
   first | exact ⟨rfl,HB5.out⟩ | exact ⟨fun h=>absurd h.2 (by decide),fun _=>⟨rfl,HB5.out⟩⟩
  | false =>
   go_wp2_with fail
   refine Calls.mono (HPU.out (by trivial) (by trivial) w5 HB5.out) ?_
   rintro e w6 ⟨rfl,h6⟩
   go_wp2_with fail
   go_ret
   first | exact ⟨rfl,h6⟩ | exact ⟨fun _=>⟨rfl,h6⟩,fun h=>absurd h (by decide)⟩
end
section
open Go.RowKit Go.Shelf
attribute [local go_sem] Oper.semAt_some
abbrev PW:=Nat × Wt
def pwV (x:PW):Array Value:=#[.int .i64 (x.1:Int),.agg #[.bool x.2.lk,.int .i64 x.2.wh,.int .i64 x.2.what]]
def backTo (l:List Wt) (k:Nat):List PW:=(List.range k).map fun j=>(l.length - 1 - j,l.getD (l.length - 1 - j) default)
theorem backTo_succ (l:List Wt) (k:Nat):backTo l (k+1)=backTo l k++[(l.length - 1 - k,l.getD (l.length - 1 - k) default)]:=by simp [backTo,List.range_succ]
theorem backTo_length (l:List Wt) (k:Nat):(backTo l k).length=k:=by simp [backTo]
theorem back1_in (F:Fence) (n:Nat) (hF:F.fn 208) (hro:F.round=none) (hn:1≤n) (lp Bs n₀:Nat) (qa:Option Addr) (qc:Nat) (l:List Wt) (hl:l.length≤3) (J Jx:List PW→World→Prop)
  (hY:∀ pre x W,J pre W→pre.length < l.length→YieldAt F (n - 1) Tryz.prog lp (pwV x) W fun e W' =>
   (e=.returned (.bool true)∧J (pre++[x]) W'∧Below n₀ W W')∨(e=.returned (.bool false)∧Jx (pre++[x]) W'))
  (W:World) (hBs:W.cell? ⟨Bs,0,none⟩=some (.slice qa l.length qc)) (hBn:Bs < n₀) (hc:WIn W qa l) (hq:∀ b o,qa=some ⟨b,o,none⟩→0 < l.length→b < n₀) (h0:J [] W) :
  CallsIn F n Tryz.prog 208 #[.func (.yield lp) #[] #[],.pointer (some ⟨Bs,0,none⟩)] W fun e W'=>(∃ v,e=.returned v) ∧
   ((∃ ys,ys=backTo l l.length∧J ys W')∨(∃ pre,(∃ k,k≤l.length∧pre=backTo l k)∧Jx pre W')):=by
 obtain ⟨len,hlen⟩:∃ len,l.length=len:=⟨_,rfl⟩
 refine callsIn_of_wp Tryz.func208 rfl hF ?_ hro
 simp only [Tryz.ntmps208,List.size_toArray,List.length_cons,List.length_nil,Nat.reduceAdd,Nat.reduceSub,Array.replicate_succ,Array.replicate_zero,List.push_toArray,List.append_toArray,List.nil_append,List.cons_append]
 rw [hlen] at hBs hl
 gi_wp2
 gi_loopw [3] (fun i wr=>∃ k:Nat,k≤len∧i=.int .i64 ((len:Int) - 1 - (k:Int))∧J (backTo l k) wr∧Below n₀ W wr) (fun i _=>(intOf i+1).toNat)
 case atStart=>exact ⟨0,Nat.zero_le _,by simp,h0,Below.refl _ _⟩
 case round =>
  obtain ⟨k,hk,rfl,hJs,hnx⟩:=hrel
  have hbx:wr.cell? ⟨Bs,0,none⟩=some (.slice qa len qc):=(hnx.cell (p:=⟨Bs,0,none⟩) hBn).trans hBs
  by_cases hlt:k < len
  ·obtain ⟨p,hp⟩:∃ p:Nat,(len:Int) - 1 - (k:Int)=(p:Int):=⟨len - 1 - k,by omega⟩
   have hpl:p < len:=by omega
   have hpe:l.length - 1 - k=p:=by omega
   obtain ⟨b,o,rfl,c0,c1,c2⟩:=hc p (by omega)
   have hb:=hq b o rfl (by omega)
   obtain ⟨y,hy0⟩:∃ y,l.getD p default=y:=⟨_,rfl⟩
   obtain ⟨fn,tmps,assign,body,hy,hR⟩:=hY (backTo l k) (p,y) wr hJs (by rw [backTo_length]; omega)
   have hbk:backTo l (k+1)=backTo l k++[(p,y)]:=by rw [backTo_succ,hpe,hy0]
   rw [hy0] at c0 c1 c2
   have d0:=(hnx.cell (p:=⟨b,o+p*3,none⟩) hb).trans c0
   have d1:=(hnx.cell (p:=⟨b,o+p*3+1,none⟩) hb).trans c1
   have d2:=(hnx.cell (p:=⟨b,o+p*3+2,none⟩) hb).trans c2
   obtain ⟨lk',wh',what'⟩:=y
   simp only [pwV] at hy d0 d1 d2
   rw [hp]
   gi_wp2
   refine hR.mono ?_
   rintro e W3 (⟨rfl,hJ3,hk3⟩ | ⟨rfl,hJx3⟩)
   ·gi_wp2
    go_roundw
    case rel=>exact ⟨k+1,by omega,by rw [← hp]; simp <;> omega,by rw [hbk]; exact hJ3,hnx.trans hk3⟩
    case measure=>first | (simp [intOf]; done) | (simp [intOf]; omega)
   ·gi_wp2
    refine bodyPost_ret (results_none rfl _ _ _) rfl ?_
    exact ⟨⟨_,rfl⟩,.inr ⟨_,⟨k+1,by omega,hbk.symm⟩,hJx3⟩⟩
  ·obtain rfl:k=len:=by omega
   have hneg:(k:Int) - 1 - (k:Int) = -1:=by omega
   rw [hneg]
   gi_wp2
   go_end0
   exact ⟨⟨_,rfl⟩,.inl ⟨_,by rw [hlen],hJs⟩⟩
end
end Go.Proofs.YtelckcpjmekgcacGreatDoor
