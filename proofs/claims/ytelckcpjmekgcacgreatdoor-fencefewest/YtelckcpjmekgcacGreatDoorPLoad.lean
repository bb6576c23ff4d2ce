import Derived.Test.YtelckcpjmekgcacGreatDoorZSum
namespace Go.Proofs.YtelckcpjmekgcacGreatDoor
set_option maxHeartbeats 1600000
set_option maxRecDepth 100000
section
open Go.RowKit
theorem bfinish_any (w:World) (B:Nat) (Q:Cd) (sb mb:Nat) (v:Rp→Value) (s:Sx) (X:Nat→Nat→Nat→Int) (t k:Nat) (hK:Q.K=bufK) (hp:MPre w B Q sb mb v s t) (hlo:∀ x,x∈(thOf s t).wait→x.lk=true→s.own.getD x.wh.toNat 0=(t:Int)) (hk:k < (thOf s t).wait.length) :
  Calls Tryz.prog 194 #[.pointer (some ⟨Q.bb,0,none⟩),.int .i64 t,.int .i64 k] w (ChgQ B Q sb mb v w (doX X 1 s (8*t+k+1)) (.tuple #[])):=by
 have hb:=buf_bf hK
 have hs:=hp.hs
 have hnt:=hp.hn
 have htl:=hp.ht
 have hw3:=hp.hw
 have hn4:=hp.h4
 rw [doX_wait (by omega)]
 obtain ⟨lb,lc,hlv,hlb,hllb⟩:=hs.bufsB hb (by omega)
 obtain ⟨qb,qc,hq,hqb,hlqb⟩:∃ qb qc,v (.buf t)=.slice (some ⟨qb,0,none⟩) (thOf s t).wait.length qc∧(v (.buf t)).ownBlock=some qb∧qb < w.heap.size:=by
  obtain ⟨g,c,h1,h2,_,h4⟩:=fam_block (hs.bufO hb t) (by omega)
  exact ⟨g,c,h1,h2,h4⟩
 have b0:=hs.b0 hb
 have b1:=hs.b1 hb
 rw [hlv] at b1
 have bq:=hs.bufc hb hlb (t:=t) (by omega)
 rw [hq] at bq
 obtain ⟨b',o',e',x0,x1,x2⟩:=hs.bwin hb hq k hk
 simp only [Option.some.injEq,Addr.mk.injEq,and_true] at e'
 obtain ⟨rfl,rfl⟩:=e'
 simp only [Nat.zero_add] at x0 x1 x2
 obtain ⟨y,hy⟩:∃ y,(thOf s t).wait.getD k default=y:=⟨_,rfl⟩
 have hym:y∈(thOf s t).wait:=mem_getD hk hy
 have hok:=hp.hok y hym
 rw [hy] at x0 x1 x2 ⊢
 obtain ⟨n,hn⟩:∃ m,Q.nt=m:=⟨_,rfl⟩
 rw [hn] at b1 hnt
 have htn:t < n:=by omega
 have hn44:n≤4:=by omega
 obtain ⟨nw,hnw⟩:∃ m,(thOf s t).wait.length=m:=⟨_,rfl⟩
 rw [hnw] at bq hw3 hk
 have lbb:Q.bb < w.heap.size:=lt_of_cell b0
 have d0:=cell_up b0
 have d1:=cell_up b1
 have dq:=cell_up bq
 obtain ⟨lk',hlk'⟩:∃ x,y.lk=x:=⟨_,rfl⟩
 obtain ⟨wh',hwh'⟩:∃ x,y.wh=x:=⟨_,rfl⟩
 obtain ⟨wt',hwt'⟩:∃ x,y.what=x:=⟨_,rfl⟩
 rw [hlk'] at x0
 rw [hwh'] at x1
 rw [hwt'] at x2
 have hD0:QSt (w.alloc (.cells #[.bool lk',.int .i64 wh',.int .i64 wt'] 268)) B Q sb mb v s:=hs.alloc _
 have hsty:Q.K.sty=268:=by rw [hK]; rfl
 have hne1:Q.bb≠qb:=hs.fam.ne (hs.bbox hb) hqb (by simp)
 have hne2:lb≠qb:=hs.fam.ne hlb hqb (by simp)
 have hne3:Q.bb≠lb:=hs.fam.ne (hs.bbox hb) hlb (by simp)
 have hne4:w.heap.size≠lb:=by omega
 have hne5:w.heap.size≠qb:=by omega
 have HDEL:Hid (∀ W,W.heap=(w.alloc (.cells #[.bool lk',.int .i64 wh',.int .i64 wt'] 268)).heap→W.os=w.os→W.tape=w.tape→W.output=w.output→Calls Tryz.prog 201 #[.slice (some ⟨qb,0,none⟩) nw qc,.int .i64 (k:Int),.int .i64 ((k:Int)+1)] W fun e w3=>e=.returned (.slice (some ⟨qb,0,none⟩) (nw - 1) qc)∧(w3.cell? ⟨Q.bb,1,none⟩=some (.slice (some ⟨lb,0,none⟩) n lc)∧w3.cell? ⟨lb,t,none⟩=some (.slice (some ⟨qb,0,none⟩) nw qc)∧w3.frozen? ⟨lb,t,none⟩=false) ∧
   (w3.cell? ⟨Q.bb,0,none⟩=some (.pointer (some ⟨mb,0,none⟩))∧w3.cell? ⟨w.heap.size,0,none⟩=some (.bool lk')∧w3.cell? ⟨w.heap.size,1,none⟩=some (.int .i64 wh')∧w3.cell? ⟨w.heap.size,2,none⟩=some (.int .i64 wt')) ∧
   Hid (∃ v1,QSt (w3.setCell ⟨lb,t,none⟩ (.slice (some ⟨qb,0,none⟩) (nw - 1) qc)) B Q sb mb v1 (setTh s t { thOf s t with wait:=(thOf s t).wait.eraseIdx k })∧Moved w (w3.setCell ⟨lb,t,none⟩ (.slice (some ⟨qb,0,none⟩) (nw - 1) qc)) v v1∧v1 .st=v .st∧v1 .thr=v .thr∧v1 .prints=v .prints∧∀ u,v1 (.regs u)=v (.regs u))):=fun W e e1 e2 e3=>by
  have hDW:=hD0.same e
  have hown:=hDW.bufO hb t
  rw [hsty,hq] at hown
  have hdel:=delete_any W B qb qc k (thOf s t).wait hown (by omega) (by omega)
  rw [hnw] at hdel
  refine hdel.mono fun en w3 ⟨h1,h2,h3⟩=>⟨h1,?_,?_,?_⟩
  ·have hz:W.heap.size=w.heap.size+1:=by rw [e]; simp
   have k1:=h3.block Q.bb (by omega) (fun e=>hne1 (by simpa using e))
   have k2:=h3.block lb (by omega) (fun e=>hne2 (by simpa using e))
   refine ⟨(World.cell?_of_block k1).trans ?_,(World.cell?_of_block k2).trans ?_,(World.frozen?_of_block k2).trans (hDW.fam.frozen hlb t)⟩
   ·exact (World.cell?_of_block (by rw [e])).trans (d1 _)
   ·exact (World.cell?_of_block (by rw [e])).trans (dq _)
  ·have hz:W.heap.size=w.heap.size+1:=by rw [e]; simp
   have k1:=h3.block Q.bb (by omega) (fun e=>hne1 (by simpa using e))
   have k2:=h3.block w.heap.size (by omega) (fun e=>hne5 (by simpa using e))
   have hO:∀ i u,(#[Value.bool lk',.int .i64 wh',.int .i64 wt']:Array Value)[i]? = some u→w3.cell? ⟨w.heap.size,i,none⟩=some u:=fun i u h=>(World.cell?_of_block k2).trans ((World.cell?_of_block (w:=w.alloc (.cells #[.bool lk',.int .i64 wh',.int .i64 wt'] 268)) (by rw [e])).trans (by rw [World.cell?_alloc_new,h]))
   exact ⟨(World.cell?_of_block k1).trans ((World.cell?_of_block (by rw [e])).trans (d0 _)),hO 0 _ rfl,hO 1 _ rfl,hO 2 _ rfl⟩
  ·have hel:((thOf s t).wait.eraseIdx k).length=nw - 1:=by rw [List.length_eraseIdx,if_pos (by omega),hnw]
   rw [← hel,← hsty] at h2
   have hMv:Moved w W v v:=Moved.same ((Moved.refl w v).alloc (.cells #[.bool lk',.int .i64 wh',.int .i64 wt'] 268)) e e1 e2 e3
   have hN:=hDW.newBuf hb hlb (by omega) (by omega) (H:=W.heap.size) h2 (by rw [hqb]; exact h3) (Or.inl hqb) (Nat.le_refl _)
   have hMM:=(hMv.grow (r:=.buf t) (g:=qb) (m:=((thOf s t).wait.eraseIdx k).length) (c:=qc) (H:=W.heap.size) (by rw [hqb]; exact h3) (Or.inl hqb) (Nat.le_refl _)).put (r:=.bufs) (g:=lb) (by rw [upd_ne _ _ (by simp)]; exact hlb) t (.slice (some ⟨qb,0,none⟩) (nw - 1) qc)
   rw [hel] at hN hMM
   exact ⟨_,hN,hMM,upd_ne _ _ (by simp),upd_ne _ _ (by simp),upd_ne _ _ (by simp),fun u=>upd_ne _ _ (by simp)⟩
 have HOW:Hid (lk'=true→0≤wh'∧wh' < (s.own.length:Int)∧s.own.getD wh'.toNat 0=(t:Int)):=fun h=>by
  have h1:=hok.1
  rw [hlk',hwh',if_pos h] at h1
  refine ⟨h1.1,h1.2,?_⟩
  have:=hlo y hym (by rw [hlk']; exact h)
  rwa [hwh'] at this
 have HWO:Hid (lk'=false→0≤wh'∧wh' < (s.words.length:Int)):=fun h=>by
  have h1:=hok.1
  rw [hlk',hwh',if_neg (by rw [h]; decide)] at h1
  exact h1
 have HBD:Hid (s.words.length≤64∧s.own.length≤4):=⟨hp.hm,hp.hl⟩
 have HY:Hid (y=⟨lk',wh',wt'⟩):=by cases y; simp only at hlk' hwh' hwt'; subst hlk' hwh' hwt'; rfl
 clear hp hs hlv hq hn hnw hnt htl hn4 hD0 hsty hlo hok hym hlk' hwh' hwt' hy
 go_enter Tryz.func194,Tryz.ntmps194
 go_wp2_with fail
 have e1:=d1 (.cells #[.bool lk',.int .i64 wh',.int .i64 wt'] 268)
 have eq:=dq (.cells #[.bool lk',.int .i64 wh',.int .i64 wt'] 268)
 have hwk:=IntWalk.i64_in ((k:Int)+1) (by omega)
 have hfar:(⟨Q.bb,1,none⟩:Addr).block≠(⟨lb,t,none⟩:Addr).block:=hne3
 refine wp_region_held_drew (S:=(fun w':World=>w'.cell? ⟨Q.bb,1,none⟩=some (.slice (some ⟨lb,0,none⟩) n lc))) (by kernel_rfl) (by first | assumption | (refine cell_drew ?_; assumption) | (refine cell_far ?_ ?_ <;> assumption)) (fun hHeld=>?_)
 try simp only [Act.put,List.setIfInBounds_toArray,List.set_cons_zero,List.set_cons_succ,List.getElem_toArray,List.getElem_cons_succ,List.getElem_cons_zero]
 refine wpAnyH_take (i:=0) (v:=.pointer (some ⟨Q.bb,0,none⟩)) rfl (by kernel_rfl) (by kernel_rfl) (by kernel_rfl) (fun _ _ _ h=>h) (Or.inl ⟨by rfl,by intro w hSw; first | (go_simp; done) | (go_simp; with_reducible rfl)⟩) (by assumption) ?_
 try simp only [Act.put,List.setIfInBounds_toArray,List.set_cons_zero,List.set_cons_succ,List.getElem_toArray,List.getElem_cons_zero]
 refine wpAnyH_take (i:=1) (v:=.pointer (some ⟨Q.bb,0,none⟩)) rfl (by kernel_rfl) (by kernel_rfl) (by kernel_rfl) (fun _ _ _ h=>h) (Or.inl ⟨by rfl,by intro w hSw; first | (go_simp; done) | (go_simp; with_reducible rfl)⟩) (by assumption) ?_
 try simp only [Act.put,List.setIfInBounds_toArray,List.set_cons_zero,List.set_cons_succ,List.getElem_toArray,List.getElem_cons_succ,List.getElem_cons_zero]
 refine wpAnyH_take (i:=2) (v:=.pointer (some ⟨Q.bb,1,none⟩)) rfl (by kernel_rfl) (by kernel_rfl) (by kernel_rfl) (fun _ _ _ h=>h) (Or.inl ⟨by rfl,by intro w hSw; first | (go_simp; done) | (go_simp; with_reducible rfl)⟩) (by assumption) ?_
 try simp only [Act.put,List.setIfInBounds_toArray,List.set_cons_zero,List.set_cons_succ,List.getElem_toArray,List.getElem_cons_succ,List.getElem_cons_zero]
 refine wpAnyH_take (i:=3) (v:=.slice (some ⟨lb,0,none⟩) n lc) rfl (by kernel_rfl) (by kernel_rfl) (by kernel_rfl) (fun _ _ _ h=>h) (Or.inl ⟨by rfl,by intro w hSw; first | (go_simp; done) | (go_simp; with_reducible rfl)⟩) (by assumption) ?_
 try simp only [Act.put,List.setIfInBounds_toArray,List.set_cons_zero,List.set_cons_succ,List.getElem_toArray,List.getElem_cons_succ,List.getElem_cons_zero]
 refine wpAnyH_take (i:=4) (v:=.int .i64 (t:Int)) rfl (by kernel_rfl) (by kernel_rfl) (by kernel_rfl) (fun _ _ _ h=>h) (Or.inl ⟨by rfl,by intro w hSw; first | (go_simp; done) | (go_simp; with_reducible rfl)⟩) (by assumption) ?_
 try simp only [Act.put,List.setIfInBounds_toArray,List.set_cons_zero,List.set_cons_succ,List.getElem_toArray,List.getElem_cons_succ,List.getElem_cons_zero]
 refine wpAnyH_take (i:=5) (v:=.pointer (some ⟨Q.bb,0,none⟩)) rfl (by kernel_rfl) (by kernel_rfl) (by kernel_rfl) (fun _ _ _ h=>h) (Or.inl ⟨by rfl,by intro w hSw; first | (go_simp; done) | (go_simp; with_reducible rfl)⟩) (by assumption) ?_
 try simp only [Act.put,List.setIfInBounds_toArray,List.set_cons_zero,List.set_cons_succ,List.getElem_toArray,List.getElem_cons_succ,List.getElem_cons_zero]
 refine wpAnyH_take (i:=6) (v:=.pointer (some ⟨Q.bb,0,none⟩)) rfl (by kernel_rfl) (by kernel_rfl) (by kernel_rfl) (fun _ _ _ h=>h) (Or.inl ⟨by rfl,by intro w hSw; first | (go_simp; done) | (go_simp; with_reducible rfl)⟩) (by assumption) ?_
 try simp only [Act.put,List.setIfInBounds_toArray,List.set_cons_zero,List.set_cons_succ,List.getElem_toArray,List.getElem_cons_succ,List.getElem_cons_zero]
 refine wpAnyH_take (i:=7) (v:=.pointer (some ⟨Q.bb,1,none⟩)) rfl (by kernel_rfl) (by kernel_rfl) (by kernel_rfl) (fun _ _ _ h=>h) (Or.inl ⟨by rfl,by intro w hSw; first | (go_simp; done) | (go_simp; with_reducible rfl)⟩) (by assumption) ?_
 try simp only [Act.put,List.setIfInBounds_toArray,List.set_cons_zero,List.set_cons_succ,List.getElem_toArray,List.getElem_cons_succ,List.getElem_cons_zero]
 refine wpAnyH_take (i:=8) (v:=.slice (some ⟨lb,0,none⟩) n lc) rfl (by kernel_rfl) (by kernel_rfl) (by kernel_rfl) (fun _ _ _ h=>h) (Or.inl ⟨by rfl,by intro w hSw; first | (go_simp; done) | (go_simp; with_reducible rfl)⟩) (by assumption) ?_
 try simp only [Act.put,List.setIfInBounds_toArray,List.set_cons_zero,List.set_cons_succ,List.getElem_toArray,List.getElem_cons_succ,List.getElem_cons_zero]
 refine wpAnyH_take (i:=9) (v:=.int .i64 (t:Int)) rfl (by kernel_rfl) (by kernel_rfl) (by kernel_rfl) (fun _ _ _ h=>h) (Or.inl ⟨by rfl,by intro w hSw; first | (go_simp; done) | (go_simp; with_reducible rfl)⟩) (by assumption) ?_
 try simp only [Act.put,List.setIfInBounds_toArray,List.set_cons_zero,List.set_cons_succ,List.getElem_toArray,List.getElem_cons_succ,List.getElem_cons_zero]
 refine wpAnyH_take (i:=10) (v:=.pointer (some ⟨lb,t,none⟩)) rfl (by kernel_rfl) (by kernel_rfl) (by kernel_rfl) (fun _ _ _ h=>h) (Or.inl ⟨by rfl,by intro w hSw; first | (go_simp; done) | (go_simp; with_reducible rfl)⟩) (by assumption) ?_
 try simp only [Act.put,List.setIfInBounds_toArray,List.set_cons_zero,List.set_cons_succ,List.getElem_toArray,List.getElem_cons_succ,List.getElem_cons_zero]
 refine wpAnyH_take (i:=12) (v:=.int .i64 (k:Int)) rfl (by kernel_rfl) (by kernel_rfl) (by kernel_rfl) (fun _ _ _ h=>h) (Or.inl ⟨by rfl,by intro w hSw; first | (go_simp; done) | (go_simp; with_reducible rfl)⟩) (by assumption) ?_
 try simp only [Act.put,List.setIfInBounds_toArray,List.set_cons_zero,List.set_cons_succ,List.getElem_toArray,List.getElem_cons_succ,List.getElem_cons_zero]
 refine wpAnyH_take (i:=13) (v:=.int .i64 (k:Int)) rfl (by kernel_rfl) (by kernel_rfl) (by kernel_rfl) (fun _ _ _ h=>h) (Or.inl ⟨by rfl,by intro w hSw; first | (go_simp; done) | (go_simp; with_reducible rfl)⟩) (by assumption) ?_
 try simp only [Act.put,List.setIfInBounds_toArray,List.set_cons_zero,List.set_cons_succ,List.getElem_toArray,List.getElem_cons_succ,List.getElem_cons_zero]
 refine wpAnyH_take (i:=14) (v:=.int .i64 ((k:Int)+1)) rfl (by kernel_rfl) (by kernel_rfl) (by kernel_rfl) (fun _ _ _ h=>h) (Or.inl ⟨by rfl,by intro w hSw; first | (go_simp; done) | (go_simp; exact hwk)⟩) (by assumption) ?_
 try simp only [Act.put,List.setIfInBounds_toArray,List.set_cons_zero,List.set_cons_succ,List.getElem_toArray,List.getElem_cons_succ,List.getElem_cons_zero]
 refine wpAnyH_ready (rs:=[11]) (by kernel_rfl) (by simp) (AllReadyH.cons rfl (fun K hK=>?_) AllReadyH.nil)
 go_simp
 refine hK.out _ _ (by first | assumption | (refine cell_drew ?_; assumption) | (refine cell_far ?_ ?_ <;> assumption)) (fun hHeld=>?_)
 clear hK K
 try simp only [Act.put,List.setIfInBounds_toArray,List.set_cons_zero,List.set_cons_succ,List.getElem_toArray,List.getElem_cons_succ,List.getElem_cons_zero]
 refine wpAnyH_ready (rs:=[15]) (by kernel_rfl) (by simp) (AllReadyH.cons rfl (fun K hK=>?_) AllReadyH.nil)
 go_simp
 refine Calls.mono (HDEL.out _ rfl rfl rfl rfl) ?_
 rintro e w3 ⟨rfl,⟨g1,g2,g3⟩,⟨f0,f1,f2,f3⟩,HV⟩
 go_wp2_with fail
 refine hK.out _ _ (by first | assumption | (refine cell_drew ?_; assumption) | (refine cell_far ?_ ?_ <;> assumption)) (fun hHeld=>?_)
 clear hK K
 try simp only [Act.put,List.setIfInBounds_toArray,List.set_cons_zero,List.set_cons_succ,List.getElem_toArray,List.getElem_cons_succ,List.getElem_cons_zero]
 refine wpAnyH_ready (rs:=[16]) (by kernel_rfl) (by simp) (AllReadyH.cons rfl (fun K hK=>?_) AllReadyH.nil)
 go_simp
 refine hK.out _ _ (by first | assumption | (refine cell_drew ?_; assumption) | (refine cell_far ?_ ?_ <;> assumption)) (fun hHeld=>?_)
 clear hK K
 try simp only [Act.put,List.setIfInBounds_toArray,List.set_cons_zero,List.set_cons_succ,List.getElem_toArray,List.getElem_cons_succ,List.getElem_cons_zero]
 refine wpAnyH_ready (rs:=[17]) (by kernel_rfl) (by simp) (AllReadyH.cons rfl (fun K hK=>?_) AllReadyH.nil)
 go_simp
 refine hK.out _ _ (by first | assumption | (refine cell_drew ?_; assumption) | (refine cell_far ?_ ?_ <;> assumption)) (fun hHeld=>?_)
 clear hK K
 try simp only [Act.put,List.setIfInBounds_toArray,List.set_cons_zero,List.set_cons_succ,List.getElem_toArray,List.getElem_cons_succ,List.getElem_cons_zero]
 refine wpAnyH_done (by kernel_rfl) ?_ _
 have z0:=cell_far (b:=⟨lb,t,none⟩) (u:=.slice (some ⟨qb,0,none⟩) (nw - 1) qc) f0 hne3
 have z1:=cell_far (b:=⟨lb,t,none⟩) (u:=.slice (some ⟨qb,0,none⟩) (nw - 1) qc) f1 hne4
 have z2:=cell_far (b:=⟨lb,t,none⟩) (u:=.slice (some ⟨qb,0,none⟩) (nw - 1) qc) f2 hne4
 have z3:=cell_far (b:=⟨lb,t,none⟩) (u:=.slice (some ⟨qb,0,none⟩) (nw - 1) qc) f3 hne4
 obtain ⟨W4,hW4⟩:∃ W,W=w3.setCell ⟨lb,t,none⟩ (.slice (some ⟨qb,0,none⟩) (nw - 1) qc):=⟨_,rfl⟩
 rw [← hW4] at z0 z1 z2 z3 HV ⊢
 clear hW4 f0 f1 f2 f3 g1 g2 g3 HDEL hHeld hwk hfar e1 eq d0 d1 dq x0 x1 x2 b0 b1 bq
 obtain ⟨v1,hQ1,hM1,m1,m2,m3,m4⟩:=HV.out
 have HQ1:=hiD (And.intro hQ1 (And.intro hM1 (And.intro m1 (And.intro m2 (And.intro m3 m4)))))
 clear HV hQ1 hM1 m1 m2 m3 m4
 cases lk' with
 | true =>
  obtain ⟨h1,h2,h3⟩:=HOW.out rfl
  obtain ⟨x,rfl,hx⟩:=toN ⟨h1,h2⟩
  simp only [Int.toNat_natCast] at h3
  have HC:Hid (∀ W,W.heap=W4.heap→W.os=W4.os→W.tape=W4.tape→W.output=W4.output→Calls Tryz.prog 187 #[.pointer (some ⟨mb,0,none⟩),.int .i64 t,.int .i64 (x:Int)] W fun e w'=>(∃ b,e=.returned (.bool b))∧ChgQ B Q sb mb v w (setTh (doneW s y) t { thOf s t with wait:=(thOf s t).wait.eraseIdx k }) (.tuple #[]) (.returned (.tuple #[])) w'):=fun W e e1 e2 e3=>by
   obtain ⟨q1,q2,q3,q4,q5,q6⟩:=HQ1.out
   refine (punlock_yes W B Q sb mb v1 _ t x (q1.same e) HBD.out.2 hx h3).mono fun en w' ⟨g1,g2,g3⟩=>⟨⟨_,g1⟩,rfl,v1,?_,(Moved.same q2 e e1 e2 e3).trans g3,q3,q4,q5,q6⟩
   rw [HY.out]
   exact g2
  clear HOW HWO h1 h2 h3 hx
  go_wp2_with fail
  refine region_tail 8 (by kernel_rfl) (by kernel_rfl) ?_
  simp only [List.take_succ_cons,List.take_zero,List.drop_succ_cons,List.drop_zero]
  repeat still_step
  refine wpStill_nil ?_
  go_wp2_with fail
  refine Calls.mono (HC.out _ rfl rfl rfl rfl) ?_
  rintro e w5 ⟨⟨b,rfl⟩,h5⟩
  go_wp2_with fail
  go_end0
  exact h5
 | false =>
  obtain ⟨x,rfl,hx⟩:=toN (HWO.out rfl)
  have HC:Hid (∀ W,W.heap=W4.heap→W.os=W4.os→W.tape=W4.tape→W.output=W4.output→Calls Tryz.prog 184 #[.pointer (some ⟨mb,0,none⟩),.int .i64 t,.int .i64 (x:Int),.int .i64 wt'] W (ChgQ B Q sb mb v w (setTh (doneW s y) t { thOf s t with wait:=(thOf s t).wait.eraseIdx k }) (.tuple #[]))):=fun W e e1 e2 e3=>by
   obtain ⟨q1,q2,q3,q4,q5,q6⟩:=HQ1.out
   refine (pstore_any W B Q sb mb v1 _ t wt' x (q1.same e) HBD.out.1 hx).mono fun en w' ⟨g1,g2,g3⟩=>⟨g1,v1,?_,(Moved.same q2 e e1 e2 e3).trans g3,q3,q4,q5,q6⟩
   rw [HY.out]
   exact g2
  clear HOW HWO hx
  go_wp2_with fail
  refine region_tail 10 (by kernel_rfl) (by kernel_rfl) ?_
  simp only [List.take_succ_cons,List.take_zero,List.drop_succ_cons,List.drop_zero]
  repeat still_step
  refine wpStill_nil ?_
  go_wp2_with fail
  refine Calls.mono (HC.out _ rfl rfl rfl rfl) ?_
  rintro e w5 ⟨rfl,h5⟩
  go_wp2_with fail
  go_end0
  exact ⟨rfl,h5⟩
end
section
open Go.RowKit Go.Shelf
attribute [local go_sem] Oper.semAt_some
theorem finds_none {s:Sx} {t x:Nat} {l:List Wt} {f:Wt→Bool} (hf:f=fun y=>!y.lk && decide (y.wh=(x:Int))) (hl:(thOf s t).wait=l) (h:∀ y∈backTo l l.length,f y.2=false):findsW s t x=s.words.getD x 0:=by
 have hn:∀ p,p < l.length→f (l.getD p default)=false:=fun p hp=>by
  have hm:(l.length - 1 - (l.length - 1 - p),l.getD (l.length - 1 - (l.length - 1 - p)) default)∈backTo l l.length:=List.mem_map.2 ⟨l.length - 1 - p,List.mem_range.2 (by omega),rfl⟩
  have h2:=h _ hm
  rwa [show l.length - 1 - (l.length - 1 - p)=p by omega] at h2
 unfold findsW
 rw [hl,← hf,back_none hn]
 simp
theorem finds_some {s:Sx} {t x k:Nat} {l:List Wt} {f:Wt→Bool} {p0:List PW} {y:PW} (hf:f=fun y=>!y.lk && decide (y.wh=(x:Int))) (hl:(thOf s t).wait=l) (hk:k≤l.length) (e:p0++[y]=backTo l k) (hy:f y.2=true) (hz:∀ z∈p0,f z.2=false):findsW s t x=y.2.what:=by
 have hlen:p0.length+1=k:=by have:=congrArg List.length e; simpa [backTo_length] using this
 subst hlen
 rw [backTo_succ] at e
 obtain ⟨e1,e2⟩:=List.append_inj' e rfl
 simp only [List.cons.injEq,and_true] at e2
 have ho:∀ p,l.length - 1 - p0.length < p→p < l.length→f (l.getD p default)=false:=fun p h1 h2=>by
  have hm:(l.length - 1 - (l.length - 1 - p),l.getD (l.length - 1 - (l.length - 1 - p)) default)∈backTo l p0.length:=List.mem_map.2 ⟨l.length - 1 - p,List.mem_range.2 (by omega),rfl⟩
  rw [← e1] at hm
  have h3:=hz _ hm
  rwa [show l.length - 1 - (l.length - 1 - p)=p by omega] at h3
 have hy2:f (l.getD (l.length - 1 - p0.length) default)=true:=by rw [e2] at hy; exact hy
 unfold findsW
 rw [hl,← hf,back_some (by omega) hy2 ho,e2]
theorem box_in {W:World} {B:Nat} {v:Value} {t:TypeId} (h:W.heap[B]? = some (.cells #[v] t (0,0))):W.cell? ⟨B,0,none⟩=some v∧W.frozen? ⟨B,0,none⟩=false:=by
 constructor <;> simp [World.cell?,World.frozen?,h]
theorem back_in (F:Fence) (n:Nat) (hF:F.fn 202) (hro:F.round=none) (a:Option Addr) (len cap:Nat) (w:World) :
  CallsIn F n Tryz.prog 202 #[.slice a len cap] w fun e w'=>e=.returned (.func (.func 208) #[] #[.pointer (some ⟨w.heap.size,0,none⟩)])∧w'=w.alloc (.cells #[.slice a len cap] 263):=by
 refine callsIn_of_wp Tryz.func202 rfl hF ?_ hro
 simp only [Tryz.ntmps202,List.size_toArray,List.length_cons,List.length_nil,Nat.reduceAdd,Nat.reduceSub,Array.replicate_succ,Array.replicate_zero,List.push_toArray,List.append_toArray,List.nil_append,List.cons_append]
 gi_wp2
 go_ret
 exact ⟨rfl,rfl⟩
theorem back_stops (F:Fence) (n:Nat) (hF:F.fn 208) (hro:F.round=none) (hn:1≤n) (Bs n₀:Nat) (qa:Option Addr) (qc:Nat) (l:List Wt) (hl:l.length≤3) (w:World) (hBs:w.cell? ⟨Bs,0,none⟩=some (.slice qa l.length qc)) (hBn:Bs < n₀) (hn₀:n₀≤w.heap.size) (hc:WIn w qa l) (hq:∀ b o,qa=some ⟨b,o,none⟩→0 < l.length→b < n₀) :
  SeqStopsK F n Tryz.prog 208 #[.pointer (some ⟨Bs,0,none⟩)] pwV (Below n₀) (fun ys=>ys=backTo l l.length) (fun pre=>∃ k,k≤l.length∧pre=backTo l k) l.length w:=fun lp J Jx W hW _ _ hY h0 =>
 back1_in F n hF hro hn lp Bs n₀ qa qc l hl J Jx hY W ((hW.cell (p:=⟨Bs,0,none⟩) (by show Bs < _; omega)).trans hBs) hBn (hc.below hW) hq h0
theorem bload_any (w:World) (B:Nat) (Q:Cd) (sb mb:Nat) (v:Rp→Value) (s:Sx) (t x:Nat) (hK:Q.K=bufK) (hp:MPre w B Q sb mb v s t) (hx:x < s.words.length) :
  Calls Tryz.prog 195 #[.pointer (some ⟨Q.bb,0,none⟩),.int .i64 t,.int .i64 x] w fun e w'=>e=.returned (.int .i64 (findsW s t x))∧Below w.heap.size w w':=by
 have hb:=buf_bf hK
 have hs:=hp.hs
 have hnt:=hp.hn
 have htl:=hp.ht
 have hw3:=hp.hw
 have hn4:=hp.h4
 obtain ⟨lb,lc,hlv,hlb,hllb⟩:=hs.bufsB hb (by omega)
 obtain ⟨qa,qc,hq⟩:=hs.bufV hb t
 have hw0:=hs.b0 hb
 have b0:=cell_up2 (hs.b0 hb)
 have b1:=cell_up2 (hs.b1 hb)
 rw [hlv] at b1
 have bq:=cell_up2 (hs.bufc hb hlb (t:=t) (by omega))
 rw [hq] at bq
 obtain ⟨r,hr⟩:∃ r,s.words.getD x 0=r:=⟨_,rfl⟩
 have HR:Hid (s.words.getD x 0=r):=hr
 have HPL:Hid (∀ W,Below w.heap.size w W→Calls Tryz.prog 182 #[.pointer (some ⟨mb,0,none⟩),.int .i64 t,.int .i64 (x:Int)] W fun e w'=>e=.returned (.int .i64 r)∧w'=W):=fun W h=>by rw [← hr]; exact pload_any W B Q sb mb v s t x (hs.below h) hp.hm hx
 have HWI:Hid (∀ W,Below w.heap.size w W→WIn W qa (thOf s t).wait):=fun W h=>(hs.bwin hb hq).below h
 have HQL:Hid (∀ b o,qa=some ⟨b,o,none⟩→0 < (thOf s t).wait.length→b < w.heap.size):=fun b o e h=>by
  obtain ⟨b',o',e',c0,_⟩:=hs.bwin hb hq 0 h
  rw [e] at e'
  simp only [Option.some.injEq,Addr.mk.injEq] at e'
  rw [e'.1]; exact lt_of_cell c0
 obtain ⟨l,hl⟩:∃ l,(thOf s t).wait=l:=⟨_,rfl⟩
 rw [hl] at bq hw3 HWI HQL
 obtain ⟨n,hn⟩:∃ m,Q.nt=m:=⟨_,rfl⟩
 rw [hn] at b1 hnt
 have htn:t < n:=by omega
 have hn44:n≤4:=by omega
 have lbb:Q.bb < w.heap.size:=lt_of_cell (hs.b0 hb)
 have HL:Hid ((thOf s t).wait=l):=hl
 clear hr hp hs hlv hlb hq hn hnt htl hn4 hl
 refine (callsIn_wide (n:=5)).1 ?_
 refine callsIn_of_wp_marks Tryz.func195 rfl trivial ?_ rfl
 simp only [Tryz.ntmps195,List.size_toArray,List.length_cons,List.length_nil,Nat.reduceAdd,Nat.reduceSub,Array.replicate_succ,Array.replicate_zero,List.push_toArray,List.append_toArray,List.nil_append,List.cons_append]
 gi_wp2
 refine ⟨trivial,(back_in Fence.wide 4 trivial rfl qa l.length qc _).mono ?_⟩
 rintro e w' ⟨rfl,rfl⟩
 gi_wp2
 obtain ⟨W0,hW0⟩:∃ W0,((w.alloc (.cells #[.int .i64 (x:Int)] 3)).alloc (.cells #[.int .i64 0] 3)).alloc (.cells #[.slice qa l.length qc] 263)=W0:=⟨_,rfl⟩
 have hs0:W0.heap.size=w.heap.size+3:=by rw [← hW0]; simp
 have hB0:W0.heap[w.heap.size]? = some (.cells #[.int .i64 (x:Int)] 3 (0,0)):=by
  rw [← hW0]; exact ((Below.heap_alloc _ _ _ (by simp; omega)).trans (Below.heap_alloc _ _ _ (by simp))).trans (World.alloc_heap_new w _)
 have hB1:W0.heap[w.heap.size+1]? = some (.cells #[.int .i64 0] 3 (0,0)):=by
  rw [← hW0]; refine (Below.heap_alloc _ _ _ (by simp)).trans ?_
  have:=World.alloc_heap_new (w.alloc (.cells #[.int .i64 (x:Int)] 3)) (.cells #[.int .i64 0] 3); rwa [World.size_alloc] at this
 have hB2:W0.heap[w.heap.size+1+1]? = some (.cells #[.slice qa l.length qc] 263 (0,0)):=by
  rw [← hW0]; have:=World.alloc_heap_new ((w.alloc (.cells #[.int .i64 (x:Int)] 3)).alloc (.cells #[.int .i64 0] 3)) (.cells #[.slice qa l.length qc] 263); rwa [World.size_alloc,World.size_alloc] at this
 have hbw:Below w.heap.size w W0:=by
  rw [← hW0]; exact (((Below.refl _ w).alloc (Nat.le_refl _) _).alloc (by simp) _).alloc (by simp; omega) _
 rw [hW0]
 obtain ⟨f,hf⟩:∃ f:Wt→Bool,f=fun y=>!y.lk && decide (y.wh=(x:Int)):=⟨_,rfl⟩
 refine wpIn_rangeFunc_ownH (F:=Fence.wide) (n:=5) rfl (by omega) (gf:=208) (lb:=#[.pointer (some ⟨w.heap.size+1+1,0,none⟩)]) rfl trivial (enters_of Tryz.func208 (by kernel_rfl) rfl)
  (back_stops Fence.wide 4 trivial rfl (by omega) (w.heap.size+1+1) W0.heap.size qa qc l hw3 W0 (box_in hB2).1 (by omega) (Nat.le_refl _) (HWI.out _ hbw) (fun b o e h=>by have:=HQL.out b o e h; omega))
  belowK_t (belowK_b (Nat.le_refl _)) (Below.refl _ _) (fun _=>rfl)
  (fun pre W=>(∀ y∈pre,f y.2=false)∧Below W0.heap.size W0 W)
  (fun c pre W=>(c=.ret∧∃ p0 y,pre=p0++[y]∧f y.2=true∧(∀ z∈p0,f z.2=false)∧W.cell? ⟨w.heap.size+1,0,none⟩=some (.int .i64 y.2.what))∧Below w.heap.size w W)
  (OwnFrom.and (ownFrom_pure _ _) (ownFrom_below (Nat.le_refl _) (Nat.le_refl _)))
  (fun c=>OwnFrom.and (Own.from (fun s A B row hs hg hr=>by obtain ⟨h1,p0,y,h2,h3,h4,h5⟩:=hs; exact ⟨h1,p0,y,h2,h3,h4,cell_kept h5 hg hr⟩) _) (ownFrom_below (Nat.le_refl _) (by omega)))
  ⟨by simp,Below.refl _ _⟩
  (fun y a' W=>∃ Bx:Nat,(W.cell? ⟨Bx,0,none⟩=some (.bool y.2.lk)∧W.cell? ⟨Bx,1,none⟩=some (.int .i64 y.2.wh)∧W.cell? ⟨Bx,2,none⟩=some (.int .i64 y.2.what))∧a'={ tmps:=#[.pointer (some ⟨Q.bb,0,none⟩),.int .i64 t,.int .i64 x,undef,undef,.pointer (some ⟨w.heap.size,0,none⟩),.pointer (some ⟨w.heap.size+1,0,none⟩),undef,.pointer (some ⟨Bx,0,none⟩),
     .pointer (some ⟨Q.bb,0,none⟩),.pointer (some ⟨Q.bb,0,none⟩),.pointer (some ⟨Q.bb,1,none⟩),.slice (some ⟨lb,0,none⟩) n lc,.int .i64 t,.pointer (some ⟨lb,t,none⟩),.slice qa l.length qc,
     .func (.func 208) #[] #[.pointer (some ⟨w.heap.size+1+1,0,none⟩)],.int .i64 (y.1:Int),.agg #[.bool y.2.lk,.int .i64 y.2.wh,.int .i64 y.2.what],undef,undef,undef,undef,undef,undef,undef,undef,undef,undef,undef,undef,undef,undef],defers:=[] })
  (fun y a'=>Own.from (fun s A B row hs hg hr=>by obtain ⟨Bx,⟨h1,h2,h3⟩,h4⟩:=hs; exact ⟨Bx,⟨cell_kept h1 hg hr,cell_kept h2 hg hr,cell_kept h3 hg hr⟩,h4⟩) _) ?assign ?body ?done ?stop
 case assign =>
  rintro lp pre ⟨i,lk,wh,what⟩ W K ⟨h1,hbW⟩ hK
  clear hB0 hB1 hB2 hW0
  simp only [pwV] at hK ⊢
  gi_wp2
  exact hK _ _ ((KeepsOthers.alloc _ _).from _) ((Below.refl _ _).alloc hbW.size _) ⟨h1,hbW.alloc hbW.size _⟩ ⟨W.heap.size,⟨World.cell?_alloc_new _ _ _ _,World.cell?_alloc_new _ _ _ _,World.cell?_alloc_new _ _ _ _⟩,rfl⟩
 case body =>
  rintro lp pre ⟨i,lk,wh,what⟩ a' W hlp hlr ⟨h1,hbW⟩ ⟨Bx,⟨d0,d1,d2⟩,rfl⟩ hN
  have c0:W.cell? ⟨w.heap.size,0,none⟩=some (.int .i64 (x:Int)):=(hbW.cell (p:=⟨w.heap.size,0,none⟩) (by show w.heap.size < _; omega)).trans (box_in hB0).1
  have c1:W.cell? ⟨w.heap.size+1,0,none⟩=some (.int .i64 0):=(hbW.cell (p:=⟨w.heap.size+1,0,none⟩) (by show w.heap.size+1 < _; omega)).trans (box_in hB1).1
  have f1:W.frozen? ⟨w.heap.size+1,0,none⟩=false:=(hbW.frozen (p:=⟨w.heap.size+1,0,none⟩) (by show w.heap.size+1 < _; omega)).trans (box_in hB1).2
  have HN:Hid (∀ e a'' W'',f ⟨lk,wh,what⟩=false→e=Exit.normal→W''=W→ownPostG W0.heap.size (Below W0.heap.size) (fun pre W=>(∀ y∈pre,f y.2=false)∧Below W0.heap.size W0 W) (fun c pre W=>(c=.ret∧∃ p0 y,pre=p0++[y]∧f y.2=true∧(∀ z∈p0,f z.2=false)∧W.cell? ⟨w.heap.size+1,0,none⟩=some (.int .i64 y.2.what))∧Below w.heap.size w W) (pre++[(i,⟨lk,wh,what⟩)]) W e a'' W''):=fun e a'' W'' hh he hW=>by
   subst he; subst hW
   refine ⟨KeepsFrom.refl _ _,Below.refl _ _,fun y hy=>?_,hbW⟩
   rcases List.mem_append.1 hy with h | h
   ·exact h1 y h
   ·simp only [List.mem_singleton] at h; subst h; exact hh
  simp only at d0 d1 d2 ⊢
  cases lk
  ·by_cases he:(x:Int)=wh
   ·subst he
    gi_wp2
    refine ⟨(KeepsOthers.setCell _ _ _).from _,⟨rfl,pre,_,rfl,by rw [hf]; simp,h1,World.cell?_setCell_same' _ _ _ (by rw [c1]; rfl)⟩,?_⟩
    exact (hbw.trans (hbW.mono (by omega))).setCell (by show w.heap.size≤w.heap.size+1; omega) _
   ·have he':¬ wh=(x:Int):=fun e=>he e.symm
    gi_wp2
    exact HN.out _ _ _ (by rw [hf]; simp [he']) rfl rfl
  ·gi_wp2
   exact HN.out _ _ _ (by rw [hf]; simp) rfl rfl
 case done =>
  rintro D xs W hD hS ⟨h1,hbW⟩ hDD
  have hbw':Below w.heap.size w W:=hbw.trans (hbW.mono (by omega))
  have c0:W.cell? ⟨w.heap.size,0,none⟩=some (.int .i64 (x:Int)):=(hbW.cell (p:=⟨w.heap.size,0,none⟩) (by show w.heap.size < _; omega)).trans (box_in hB0).1
  have c1:W.cell? ⟨w.heap.size+1,0,none⟩=some (.int .i64 0):=(hbW.cell (p:=⟨w.heap.size+1,0,none⟩) (by show w.heap.size+1 < _; omega)).trans (box_in hB1).1
  have f1:W.frozen? ⟨w.heap.size+1,0,none⟩=false:=(hbW.frozen (p:=⟨w.heap.size+1,0,none⟩) (by show w.heap.size+1 < _; omega)).trans (box_in hB1).2
  have g0:=(hbw'.cell (p:=⟨Q.bb,0,none⟩) lbb).trans hw0
  have hfin:findsW s t x=s.words.getD x 0:=finds_none hf HL.out (by rw [← hS]; exact h1)
  have HFIN:Hid (findsW s t x=r):=hfin.trans HR.out
  have HBW:Hid (Below w.heap.size w W):=hbw'
  have HDD:Hid (W.heap[D]? = some (.deferred (some []))):=hDD
  have hDw:w.heap.size≤D:=by omega
  have HC1:Hid (W.cell? ⟨w.heap.size+1,0,none⟩=some (.int .i64 0)):=c1
  clear hB0 hB1 hB2 hW0 hS h1 hbW hbw hfin hf hDD hbw'
  gi_wp2
  refine wpIn_wide.2 ?_
  refine region_tail 6 (by kernel_rfl) (by kernel_rfl) ?_
  simp only [List.take_succ_cons,List.take_zero,List.drop_succ_cons,List.drop_zero]
  repeat still_step
  refine wpStill_nil ?_
  go_wp2_with fail
  refine Calls.mono (HPL.out _ HBW.out.drew) ?_
  rintro e w5 ⟨rfl,rfl⟩
  go_wp2_with fail
  gi_wp2
  have hK':((W.setCell ⟨w.heap.size+1,0,none⟩ (.int .i64 r)).drew).heap[D]? = some (.deferred (some [])):=(KeepsOthers.setCell W ⟨w.heap.size+1,0,none⟩ (.int .i64 r)).same D _ HDD.out rfl
  refine ⟨by simp,.inl ⟨_,_,rfl,run_takeDeferred hK',?_⟩⟩
  have hc4:((W.setCell ⟨w.heap.size+1,0,none⟩ (.int .i64 r)).drew).cell? ⟨w.heap.size+1,0,none⟩=some (.int .i64 r):=World.cell?_setCell_same' W ⟨w.heap.size+1,0,none⟩ (.int .i64 r) (by rw [HC1.out]; rfl)
  have hc5:=cell_kept hc4 (grownBy_putObj' _ D (.deferred none)) (fun r e=>by cases e; exact ⟨_,hK',rfl⟩)
  refine ⟨.int .i64 r,?_,by rw [HFIN.out],((HBW.out.setCell (by show w.heap.size≤w.heap.size+1; omega) _).drew).trans (belowK_b (w:=w) (Nat.le_refl _) _ D _ _ hDw hK' rfl rfl)⟩
  simp [results,Tryz.f195,go_sem,hc5]
 case stop =>
  rintro D c pre W hD ⟨k,hk,hpre⟩ ⟨⟨rfl,p0,y,hp0,hy,hz,hcr⟩,hbW⟩ hDD
  have hfin:findsW s t x=y.2.what:=finds_some hf HL.out hk (hp0.symm.trans hpre) hy hz
  clear hB0 hB1 hB2 hW0
  gi_wp2
  refine ⟨by simp,.inl ⟨_,_,rfl,run_takeDeferred hDD,?_⟩⟩
  have hc5:=cell_kept hcr (grownBy_putObj' _ D (.deferred none)) (fun r e=>by cases e; exact ⟨_,hDD,rfl⟩)
  refine ⟨.int .i64 y.2.what,?_,by rw [hfin],hbW.trans (belowK_b (w:=w) (Nat.le_refl _) W D _ _ (by omega) hDD rfl rfl)⟩
  simp [results,Tryz.f195,go_sem,hc5]
end
end Go.Proofs.YtelckcpjmekgcacGreatDoor
