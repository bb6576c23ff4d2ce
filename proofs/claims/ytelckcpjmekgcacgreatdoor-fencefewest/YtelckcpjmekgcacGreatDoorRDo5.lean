import Derived.Test.YtelckcpjmekgcacGreatDoorDSt2
namespace Go.Proofs.YtelckcpjmekgcacGreatDoor
set_option maxHeartbeats 3200000
set_option maxRecDepth 100000
section
open Go.RowKit
theorem do_10 (w:World) (B sb:Nat) (P:Pg) (v:Rl→Value) (s:Sx) (A:Nat→Option Addr) (L C:Nat→Nat) (X:Nat→Nat→Nat→Int) (m lk rg t:Nat) (mv:Int) (_h0:0≤mv) (_h1:mv≤1000) (hq:mv/8=t) (hr:mv % 8=0) (hx:Cx w B sb P v s A L C X m lk rg t) (hop:opT X s t 0=10) :
  Calls Tryz.prog 60 #[.pointer (some ⟨sb,0,none⟩),.int .i64 mv] w (DoQ B sb P v w (orderX P.mode (stepS s t) t 10 (opT X s t 1) (opT X s t 2) (opT X s t 3))):=by
 obtain ⟨n,tb,tc,rb,rc,pc,⟨htn,hn4,hpc4⟩,HPC,c5,HNX,HPRE⟩:=hx.pre
 have htl:t < s.ths.length:=by have:=hx.ho.ths; have:=hx.ht; omega
 have hrl:(thOf s t).regs.length=rg:=hx.ho.regs t hx.ht
 have hord:=hx.hc.ord t (thOf s t).pc hx.ht hx.hlt
 have hsz:=hx.hc.L4 t hx.ht
 have hrg2:=hx.hc.rg2
 change ordE rg m lk (L t) (opT X s t 0) (opT X s t 1) (opT X s t 2) (opT X s t 3)=0 at hord
 rw [hop] at hord
 rw [hop] at HNX
 obtain ⟨a,ea⟩:∃ x,opT X s t 1=x:=⟨_,rfl⟩
 obtain ⟨b,eb⟩:∃ x,opT X s t 2=x:=⟨_,rfl⟩
 obtain ⟨c,ec⟩:∃ x,opT X s t 3=x:=⟨_,rfl⟩
 rw [ea,eb,ec] at hord HNX ⊢
 clear ea eb ec
 obtain ⟨⟨ia,rfl,ha⟩,⟨ib,rfl,hb⟩⟩:=by
  have h3:=ok_rr (by omega) hord
  exact (⟨toN h3.1,toN h3.2⟩:_∧_)
 have hwl:s.words.length=m:=hx.ho.words
 have hol:s.own.length=lk:=hx.ho.own
 have hm64:=hx.hc.m64
 have hlk4:=hx.hc.lk4
 have hw3:=hx.ho.wlen t hx.ht
 have hthn:=hx.ho.ths
 have hpn4:=hx.hc.n4
 have hsl:(stepS s t).ths.length=s.ths.length:=stepS_len s t
 have hsw:(thOf (stepS s t) t).wait.length≤3:=by rw [stepS_wait htl]; exact hw3
 obtain ⟨Vb,eb⟩:∃ x,getR s t (ib:Int)=x:=⟨_,rfl⟩
 have HVb:Hid (getR s t (ib:Int)=Vb):=eb
 have hBs:=hx.hs.fam
 clear eb
 by_cases hin:0≤Vb∧Vb < (s.words.length:Int)
 ·obtain ⟨wd,rfl,hwd⟩:=toN hin
  have HST:Hid (orderX P.mode (stepS s t) t 10 (ia:Int) (ib:Int) c=setR (stepS s t) t (ia:Int) (findsW s t (wd:Int))):=by
   show (if getR (stepS s t) t (ib:Int) < 0∨((stepS s t).words.length:Int)≤getR (stepS s t) t (ib:Int) then _ else _)=_
   rw [stepS_getR htl,HVb.out,if_neg (by show ¬ ((wd:Int) < 0∨(s.words.length:Int)≤(wd:Int)); omega),stepS_finds htl]
  have HX:=hiD hx
  clear hx hord hop hsz hBs hin
  go_enter Tryz.func60,Tryz.ntmps60
  go_wp2_with fail
  refine Calls.mono HNX.out ?_
  rintro e w1 ⟨rfl,hb1⟩
  have HP:=HPRE.out w1 hb1
  have d5:=HP.c5
  have dp:=HP.cp
  have df:=HP.cf
  have dr:=HP.cr
  have nrt:=HP.nrt
  have ntr:=HP.ntr
  have lrb:=HP.lrb
  have ltb:=HP.ltb
  have fa:=HP.frz ia
  have wa:=HP.regW htl (r:=ia) (by omega)
  obtain ⟨VA,eA⟩:∃ x,getR s t (ia:Int)=x:=⟨_,rfl⟩
  rw [eA] at wa
  clear eA
  have wb:=HP.regW htl (r:=ib) (by omega)
  rw [HVb.out] at wb
  have HF:=hiD (HP.fin htl ia (findsW s t (wd:Int)))
  have HC:Hid (∀ o,Calls Tryz.prog 93 #[.pointer (some ⟨sb,0,none⟩),.int .i64 t,.int .i64 (wd:Int)] ((w1.setCell ⟨tb,t*3,none⟩ (.int .i64 ((pc:Int)+1))).alloc o).drew fun e w'=>e=.returned (.int .i64 (findsW s t (wd:Int)))∧w'=((w1.setCell ⟨tb,t*3,none⟩ (.int .i64 ((pc:Int)+1))).alloc o).drew):=fun o=>by
   have:=finds_D _ B sb P v (stepS s t) t wd ((HP.D.alloc o).drew) (by rw [hsl]; exact htl) (by rw [hsl]; omega) (by show wd < s.words.length; omega) (by show s.words.length≤64; omega) hsw
   rwa [stepS_finds htl] at this
  have HWD:Hid (∀ o,Calls Tryz.prog 95 #[.pointer (some ⟨sb,0,none⟩),.int .i64 (wd:Int)] ((w1.setCell ⟨tb,t*3,none⟩ (.int .i64 ((pc:Int)+1))).alloc o) fun e w'=>e=.returned (.bool true)∧((w1.setCell ⟨tb,t*3,none⟩ (.int .i64 ((pc:Int)+1))).alloc o)=w'):=fun o =>
   word_yes _ B sb P v (stepS s t) (wd:Int) (HP.D.alloc o) (by show s.words.length≤64; omega) (by show 0≤(wd:Int)∧(wd:Int) < (s.words.length:Int); omega)
  clear HP HPRE HNX
  go_wp2_with fail
  refine Calls.mono (HWD.out _) ?_
  rintro e w2 ⟨rfl,rfl⟩
  go_wp2
  refine region_tail 12 (by kernel_rfl) (by kernel_rfl) ?_
  simp only [List.take_succ_cons,List.take_zero,List.drop_succ_cons,List.drop_zero]
  repeat still_step
  still_call (HC.out _)
  repeat still_step
  refine wpStill_nil ?_
  go_wp2
  all_goals go_end0
  all_goals refine ⟨rfl,v,?_⟩
  all_goals rw [HST.out]
  all_goals exact ⟨DSt.same (HF.out.1.alloc _) rfl,Moved.same (HF.out.2.alloc _) rfl rfl rfl rfl⟩
 ·have HST:Hid (orderX P.mode (stepS s t) t 10 (ia:Int) (ib:Int) c=fallX (stepS s t)):=by
   show (if getR (stepS s t) t (ib:Int) < 0∨((stepS s t).words.length:Int)≤getR (stepS s t) t (ib:Int) then _ else _)=_
   rw [stepS_getR htl,HVb.out,if_pos (by show Vb < 0∨(s.words.length:Int)≤Vb; omega)]
  have HX:=hiD hx
  clear hx hord hop hsz hBs
  go_enter Tryz.func60,Tryz.ntmps60
  go_wp2_with fail
  refine Calls.mono HNX.out ?_
  rintro e w1 ⟨rfl,hb1⟩
  have HP:=HPRE.out w1 hb1
  have d5:=HP.c5
  have dp:=HP.cp
  have df:=HP.cf
  have dr:=HP.cr
  have nrt:=HP.nrt
  have ntr:=HP.ntr
  have lrb:=HP.lrb
  have ltb:=HP.ltb
  have wb:=HP.regW htl (r:=ib) (by omega)
  rw [HVb.out] at wb
  have HF:Hid (DSt ((w1.setCell ⟨tb,t*3,none⟩ (.int .i64 ((pc:Int)+1))).setCell ⟨sb,9,none⟩ (.bool true)) B P sb v (fallX (stepS s t))∧Moved w ((w1.setCell ⟨tb,t*3,none⟩ (.int .i64 ((pc:Int)+1))).setCell ⟨sb,9,none⟩ (.bool true)) v v):=⟨HP.D.fall,HP.M.put HP.D.bblk 9 _⟩
  have hset:∀ o,((w1.setCell ⟨tb,t*3,none⟩ (.int .i64 ((pc:Int)+1))).alloc o).setCell ⟨sb,9,none⟩ (.bool true)=((w1.setCell ⟨tb,t*3,none⟩ (.int .i64 ((pc:Int)+1))).setCell ⟨sb,9,none⟩ (.bool true)).alloc o:=fun o=>setCell_up (by have:=HP.lsb; simpa [World.setCell] using this)
  have HWD:Hid (∀ o,Calls Tryz.prog 95 #[.pointer (some ⟨sb,0,none⟩),.int .i64 Vb] ((w1.setCell ⟨tb,t*3,none⟩ (.int .i64 ((pc:Int)+1))).alloc o) fun e w'=>e=.returned (.bool false)∧((w1.setCell ⟨tb,t*3,none⟩ (.int .i64 ((pc:Int)+1))).setCell ⟨sb,9,none⟩ (.bool true)).alloc o=w'):=fun o=>by
   have:=word_no _ B sb P v (stepS s t) Vb (HP.D.alloc o) (by show s.words.length≤64; omega) (by show Vb < 0∨(s.words.length:Int)≤Vb; omega)
   rwa [hset o] at this
  clear HP HPRE HNX hset
  go_wp2_with fail
  refine Calls.mono (HWD.out _) ?_
  rintro e w2 ⟨rfl,rfl⟩
  go_wp2
  all_goals go_end0
  all_goals refine ⟨rfl,v,?_⟩
  all_goals rw [HST.out]
  all_goals exact ⟨DSt.same (HF.out.1.alloc _) rfl,Moved.same (HF.out.2.alloc _) rfl rfl rfl rfl⟩
end
section
open Go.RowKit
theorem do_11 (w:World) (B sb:Nat) (P:Pg) (v:Rl→Value) (s:Sx) (A:Nat→Option Addr) (L C:Nat→Nat) (X:Nat→Nat→Nat→Int) (m lk rg t:Nat) (mv:Int) (_h0:0≤mv) (_h1:mv≤1000) (hq:mv/8=t) (hr:mv % 8=0) (hx:Cx w B sb P v s A L C X m lk rg t) (hop:opT X s t 0=11) :
  Calls Tryz.prog 60 #[.pointer (some ⟨sb,0,none⟩),.int .i64 mv] w (DoQ B sb P v w (orderX P.mode (stepS s t) t 11 (opT X s t 1) (opT X s t 2) (opT X s t 3))):=by
 obtain ⟨n,tb,tc,rb,rc,pc,⟨htn,hn4,hpc4⟩,HPC,c5,HNX,HPRE⟩:=hx.pre
 have htl:t < s.ths.length:=by have:=hx.ho.ths; have:=hx.ht; omega
 have hrl:(thOf s t).regs.length=rg:=hx.ho.regs t hx.ht
 have hord:=hx.hc.ord t (thOf s t).pc hx.ht hx.hlt
 have hsz:=hx.hc.L4 t hx.ht
 have hrg2:=hx.hc.rg2
 change ordE rg m lk (L t) (opT X s t 0) (opT X s t 1) (opT X s t 2) (opT X s t 3)=0 at hord
 rw [hop] at hord
 rw [hop] at HNX
 obtain ⟨a,ea⟩:∃ x,opT X s t 1=x:=⟨_,rfl⟩
 obtain ⟨b,eb⟩:∃ x,opT X s t 2=x:=⟨_,rfl⟩
 obtain ⟨c,ec⟩:∃ x,opT X s t 3=x:=⟨_,rfl⟩
 rw [ea,eb,ec] at hord HNX ⊢
 clear ea eb ec
 obtain ⟨⟨ia,rfl,ha⟩,⟨ib,rfl,hb⟩⟩:=by
  have h3:=ok_rr (by omega) hord
  exact (⟨toN h3.1,toN h3.2⟩:_∧_)
 have hwl:s.words.length=m:=hx.ho.words
 have hol:s.own.length=lk:=hx.ho.own
 have hm64:=hx.hc.m64
 have hlk4:=hx.hc.lk4
 have hw3:=hx.ho.wlen t hx.ht
 have hthn:=hx.ho.ths
 have hpn4:=hx.hc.n4
 have hsl:(stepS s t).ths.length=s.ths.length:=stepS_len s t
 have hsw:(thOf (stepS s t) t).wait.length≤3:=by rw [stepS_wait htl]; exact hw3
 obtain ⟨Va,ea⟩:∃ x,getR s t (ia:Int)=x:=⟨_,rfl⟩
 have HVa:Hid (getR s t (ia:Int)=Va):=ea
 obtain ⟨Vb,eb⟩:∃ x,getR s t (ib:Int)=x:=⟨_,rfl⟩
 have HVb:Hid (getR s t (ib:Int)=Vb):=eb
 clear ea eb
 have hmode:=hx.hm
 have hBw:=hx.hB
 by_cases hin:0≤Va∧Va < (s.words.length:Int)
 ·obtain ⟨wd,rfl,hwd⟩:=toN hin
  have HST:Hid (orderX P.mode (stepS s t) t 11 (ia:Int) (ib:Int) c=storeW P.mode (stepS s t) t ⟨false,(wd:Int),Vb⟩):=by
   show (if getR (stepS s t) t (ia:Int) < 0∨((stepS s t).words.length:Int)≤getR (stepS s t) t (ia:Int) then _ else _)=_
   rw [stepS_getR htl,stepS_getR htl,HVa.out,HVb.out,if_neg (by show ¬ ((wd:Int) < 0∨(s.words.length:Int)≤(wd:Int)); omega)]
  have HX:=hiD hx
  clear hx hord hop hsz hin
  go_enter Tryz.func60,Tryz.ntmps60
  go_wp2_with fail
  refine Calls.mono HNX.out ?_
  rintro e w1 ⟨rfl,hb1⟩
  have HP:=HPRE.out w1 hb1
  have d5:=HP.c5
  have dp:=HP.cp
  have df:=HP.cf
  have dr:=HP.cr
  have nrt:=HP.nrt
  have ntr:=HP.ntr
  have lrb:=HP.lrb
  have ltb:=HP.ltb
  have wa:=HP.regW htl (r:=ia) (by omega)
  rw [HVa.out] at wa
  have wb:=HP.regW htl (r:=ib) (by omega)
  rw [HVb.out] at wb
  have HC:Hid (∀ o,Calls Tryz.prog 94 #[.pointer (some ⟨sb,0,none⟩),.int .i64 t,.agg #[.bool false,.int .i64 (wd:Int),.int .i64 Vb]] ((w1.setCell ⟨tb,t*3,none⟩ (.int .i64 ((pc:Int)+1))).alloc o).drew fun e w'=>e=.returned (.tuple #[])∧∃ v',DSt w' B P sb v' (storeW P.mode (stepS s t) t ⟨false,(wd:Int),Vb⟩)∧Moved w w' v v'):=fun o =>
   (store_any _ B sb P v (stepS s t) t ⟨false,(wd:Int),Vb⟩ ((HP.D.alloc o).drew) (by have:=(HP.M.alloc o).size; simp at this ⊢; omega) hmode (by rw [hsl]; exact htl) (by rw [hsl]; omega) hsw (by show (0:Int)≤(wd:Int); omega) (by show (wd:Int) < ((s.words.length:Nat):Int); omega) (by show s.words.length≤64; omega) (by show s.own.length≤4; omega)).mono fun e w' ⟨h1,v',h2,h3⟩=>⟨h1,v',h2,((HP.M.alloc o).drew).trans h3⟩
  have HWD:Hid (∀ o,Calls Tryz.prog 95 #[.pointer (some ⟨sb,0,none⟩),.int .i64 (wd:Int)] ((w1.setCell ⟨tb,t*3,none⟩ (.int .i64 ((pc:Int)+1))).alloc o) fun e w'=>e=.returned (.bool true)∧((w1.setCell ⟨tb,t*3,none⟩ (.int .i64 ((pc:Int)+1))).alloc o)=w'):=fun o =>
   word_yes _ B sb P v (stepS s t) (wd:Int) (HP.D.alloc o) (by show s.words.length≤64; omega) (by show 0≤(wd:Int)∧(wd:Int) < (s.words.length:Int); omega)
  clear HP HPRE HNX
  go_wp2_with fail
  refine Calls.mono (HWD.out _) ?_
  rintro e w2 ⟨rfl,rfl⟩
  go_wp2
  refine region_tail 13 (by kernel_rfl) (by kernel_rfl) ?_
  simp only [List.take_succ_cons,List.take_zero,List.drop_succ_cons,List.drop_zero]
  repeat still_step
  refine wpStill_nil ?_
  go_wp2_with fail
  refine Calls.mono (HC.out _) ?_
  rintro e w3 ⟨rfl,v2,hD2,hM2⟩
  go_wp2_with fail
  go_end0
  refine ⟨rfl,v2,?_⟩
  rw [HST.out]
  exact ⟨hD2,hM2⟩
 ·have HST:Hid (orderX P.mode (stepS s t) t 11 (ia:Int) (ib:Int) c=fallX (stepS s t)):=by
   show (if getR (stepS s t) t (ia:Int) < 0∨((stepS s t).words.length:Int)≤getR (stepS s t) t (ia:Int) then _ else _)=_
   rw [stepS_getR htl,HVa.out,if_pos (by show Va < 0∨(s.words.length:Int)≤Va; omega)]
  have HX:=hiD hx
  clear hx hord hop hsz
  go_enter Tryz.func60,Tryz.ntmps60
  go_wp2_with fail
  refine Calls.mono HNX.out ?_
  rintro e w1 ⟨rfl,hb1⟩
  have HP:=HPRE.out w1 hb1
  have d5:=HP.c5
  have dp:=HP.cp
  have df:=HP.cf
  have dr:=HP.cr
  have nrt:=HP.nrt
  have ntr:=HP.ntr
  have lrb:=HP.lrb
  have ltb:=HP.ltb
  have wa:=HP.regW htl (r:=ia) (by omega)
  rw [HVa.out] at wa
  have HF:Hid (DSt ((w1.setCell ⟨tb,t*3,none⟩ (.int .i64 ((pc:Int)+1))).setCell ⟨sb,9,none⟩ (.bool true)) B P sb v (fallX (stepS s t))∧Moved w ((w1.setCell ⟨tb,t*3,none⟩ (.int .i64 ((pc:Int)+1))).setCell ⟨sb,9,none⟩ (.bool true)) v v):=⟨HP.D.fall,HP.M.put HP.D.bblk 9 _⟩
  have hset:∀ o,((w1.setCell ⟨tb,t*3,none⟩ (.int .i64 ((pc:Int)+1))).alloc o).setCell ⟨sb,9,none⟩ (.bool true)=((w1.setCell ⟨tb,t*3,none⟩ (.int .i64 ((pc:Int)+1))).setCell ⟨sb,9,none⟩ (.bool true)).alloc o:=fun o=>setCell_up (by have:=HP.lsb; simpa [World.setCell] using this)
  have HWD:Hid (∀ o,Calls Tryz.prog 95 #[.pointer (some ⟨sb,0,none⟩),.int .i64 Va] ((w1.setCell ⟨tb,t*3,none⟩ (.int .i64 ((pc:Int)+1))).alloc o) fun e w'=>e=.returned (.bool false)∧((w1.setCell ⟨tb,t*3,none⟩ (.int .i64 ((pc:Int)+1))).setCell ⟨sb,9,none⟩ (.bool true)).alloc o=w'):=fun o=>by
   have:=word_no _ B sb P v (stepS s t) Va (HP.D.alloc o) (by show s.words.length≤64; omega) (by show Va < 0∨(s.words.length:Int)≤Va; omega)
   rwa [hset o] at this
  clear HP HPRE HNX hset
  go_wp2_with fail
  refine Calls.mono (HWD.out _) ?_
  rintro e w2 ⟨rfl,rfl⟩
  go_wp2
  all_goals go_end0
  all_goals refine ⟨rfl,v,?_⟩
  all_goals rw [HST.out]
  all_goals exact ⟨DSt.same (HF.out.1.alloc _) rfl,Moved.same (HF.out.2.alloc _) rfl rfl rfl rfl⟩
end
section
open Go.RowKit
theorem do_13 (w:World) (B sb:Nat) (P:Pg) (v:Rl→Value) (s:Sx) (A:Nat→Option Addr) (L C:Nat→Nat) (X:Nat→Nat→Nat→Int) (m lk rg t:Nat) (mv:Int) (_h0:0≤mv) (_h1:mv≤1000) (hq:mv/8=t) (hr:mv % 8=0) (hx:Cx w B sb P v s A L C X m lk rg t) (hop:opT X s t 0=13) :
  Calls Tryz.prog 60 #[.pointer (some ⟨sb,0,none⟩),.int .i64 mv] w (DoQ B sb P v w (orderX P.mode (stepS s t) t 13 (opT X s t 1) (opT X s t 2) (opT X s t 3))):=by
 obtain ⟨n,tb,tc,rb,rc,pc,⟨htn,hn4,hpc4⟩,HPC,c5,HNX,HPRE⟩:=hx.pre
 have htl:t < s.ths.length:=by have:=hx.ho.ths; have:=hx.ht; omega
 have hrl:(thOf s t).regs.length=rg:=hx.ho.regs t hx.ht
 have hord:=hx.hc.ord t (thOf s t).pc hx.ht hx.hlt
 have hsz:=hx.hc.L4 t hx.ht
 have hrg2:=hx.hc.rg2
 change ordE rg m lk (L t) (opT X s t 0) (opT X s t 1) (opT X s t 2) (opT X s t 3)=0 at hord
 rw [hop] at hord
 rw [hop] at HNX
 obtain ⟨a,ea⟩:∃ x,opT X s t 1=x:=⟨_,rfl⟩
 obtain ⟨b,eb⟩:∃ x,opT X s t 2=x:=⟨_,rfl⟩
 obtain ⟨c,ec⟩:∃ x,opT X s t 3=x:=⟨_,rfl⟩
 rw [ea,eb,ec] at hord HNX ⊢
 clear ea eb ec
 obtain ⟨⟨ia,rfl,ha⟩,⟨ib,rfl,hb⟩,⟨ic,rfl,hc⟩⟩:=by
  have h3:=ok_cas hord
  exact (⟨toN h3.1,toN h3.2.1,toN h3.2.2⟩:_∧_∧_)
 have hwl:s.words.length=m:=hx.ho.words
 have hol:s.own.length=lk:=hx.ho.own
 have hm64:=hx.hc.m64
 have hlk4:=hx.hc.lk4
 have hw3:=hx.ho.wlen t hx.ht
 have hthn:=hx.ho.ths
 have hpn4:=hx.hc.n4
 have hsl:(stepS s t).ths.length=s.ths.length:=stepS_len s t
 have hsw:(thOf (stepS s t) t).wait.length≤3:=by rw [stepS_wait htl]; exact hw3
 obtain ⟨Vb,eb⟩:∃ x,getR s t (ib:Int)=x:=⟨_,rfl⟩
 have HVb:Hid (getR s t (ib:Int)=Vb):=eb
 obtain ⟨Vc,ec⟩:∃ x,getR s t (ic:Int)=x:=⟨_,rfl⟩
 have HVc:Hid (getR s t (ic:Int)=Vc):=ec
 obtain ⟨VW,eW⟩:∃ x,s.words.getD ia 0=x:=⟨_,rfl⟩
 have HVW:Hid (s.words.getD ia 0=VW):=eW
 clear eb ec eW
 by_cases hin:VW=Vb
 ·subst hin
  have HST:Hid (orderX P.mode (stepS s t) t 13 (ia:Int) (ib:Int) (ic:Int)=setR { stepS s t with words:=(stepS s t).words.set ia Vc } t (ib:Int) 1):=by
   show (if (stepS s t).words.getD ia 0=getR (stepS s t) t (ib:Int) then setR { stepS s t with words:=(stepS s t).words.set ia (getR (stepS s t) t (ic:Int)) } t (ib:Int) 1 else _)=_
   rw [stepS_getR htl,stepS_getR htl,HVb.out,HVc.out,if_pos (by exact HVW.out)]
  have HX:=hiD hx
  clear hx hord hop hsz
  go_enter Tryz.func60,Tryz.ntmps60
  go_wp2_with fail
  refine Calls.mono HNX.out ?_
  rintro e w1 ⟨rfl,hb1⟩
  have HP:=HPRE.out w1 hb1
  have d5:=HP.c5
  have dp:=HP.cp
  have df:=HP.cf
  have dr:=HP.cr
  have nrt:=HP.nrt
  have ntr:=HP.ntr
  have lrb:=HP.lrb
  have ltb:=HP.ltb
  have wb:=HP.regW htl (r:=ib) (by omega)
  rw [HVb.out] at wb
  have wc:=HP.regW htl (r:=ic) (by omega)
  rw [HVc.out] at wc
  obtain ⟨wb,wc,hwv,hwb,hlw⟩:=HP.D.wordsB (by show 0 < s.words.length; omega)
  have ntw:=HP.D.fam.ne HP.btb hwb (by simp)
  have nwt:=HP.D.fam.ne hwb HP.btb (by simp)
  have nrw:=HP.D.fam.ne HP.brb hwb (by simp)
  have nwr:=HP.D.fam.ne hwb HP.brb (by simp)
  have c6:=HP.D.c6
  rw [hwv,show (stepS s t).words.length=s.words.length from rfl,hwl] at c6
  have c6':=(World.cell?_of_block (w:=w1) (a:=⟨sb,6,none⟩) (Below.heap_setCell _ _ _ _ HP.nst)).symm.trans c6
  have co:=HP.D.word hwb (r:=ia) (by show ia < s.words.length; omega)
  have co':=(World.cell?_of_block (w:=w1) (a:=⟨wb,ia,none⟩) (Below.heap_setCell _ _ _ _ nwt)).symm.trans co
  have fo:=HP.D.fam.frozen hwb ia
  have fo':=(World.frozen?_of_block (w:=w1) (a:=⟨wb,ia,none⟩) (Below.heap_setCell _ _ _ _ nwt)).symm.trans fo
  have fb:=HP.frz ib
  have nst:=HP.nst
  have nts:=HP.nts
  have lsb:=HP.lsb
  have lwb:wb < w1.heap.size:=by simpa [World.setCell] using hlw
  rw [show (stepS s t).words.getD ia 0=s.words.getD ia 0 from rfl,HVW.out] at co'
  have HF:Hid (∀ o,DSt ((((w1.setCell ⟨tb,t*3,none⟩ (.int .i64 ((pc:Int)+1))).alloc o).setCell ⟨wb,ia,none⟩ (.int .i64 Vc)).setCell ⟨rb,ib,none⟩ (.int .i64 1)) B P sb v (setR { stepS s t with words:=(stepS s t).words.set ia Vc } t (ib:Int) 1)∧Moved w ((((w1.setCell ⟨tb,t*3,none⟩ (.int .i64 ((pc:Int)+1))).alloc o).setCell ⟨wb,ia,none⟩ (.int .i64 Vc)).setCell ⟨rb,ib,none⟩ (.int .i64 1)) v v):=fun o=>⟨((HP.D.alloc o).setWord hwb ia Vc).setReg HP.brb (by show t < (stepS s t).ths.length; rw [hsl]; exact htl) ib 1,((HP.M.alloc o).put hwb ia _).put HP.brb ib _⟩
  clear HP HPRE HNX hwv hwb c6 co fo hlw
  go_wp2
  go_quiet (fail)
  go_wp2
  refine region_tail 12 (by kernel_rfl) (by kernel_rfl) ?_
  simp only [List.take_succ_cons,List.take_zero,List.drop_succ_cons,List.drop_zero]
  repeat still_step
  refine wpStill_nil ?_
  go_wp2
  all_goals go_end0
  all_goals refine ⟨rfl,v,?_⟩
  all_goals rw [HST.out]
  all_goals exact ⟨DSt.same (HF.out _).1 rfl,Moved.same (HF.out _).2 rfl rfl rfl rfl⟩
 ·have HST:Hid (orderX P.mode (stepS s t) t 13 (ia:Int) (ib:Int) (ic:Int)=setR (stepS s t) t (ib:Int) 0):=by
   show (if (stepS s t).words.getD ia 0=getR (stepS s t) t (ib:Int) then _ else setR (stepS s t) t (ib:Int) 0)=_
   rw [stepS_getR htl,HVb.out,if_neg (by show ¬ s.words.getD ia 0=Vb; rw [HVW.out]; exact hin)]
  have HX:=hiD hx
  clear hx hord hop hsz
  go_enter Tryz.func60,Tryz.ntmps60
  go_wp2_with fail
  refine Calls.mono HNX.out ?_
  rintro e w1 ⟨rfl,hb1⟩
  have HP:=HPRE.out w1 hb1
  have d5:=HP.c5
  have dp:=HP.cp
  have df:=HP.cf
  have dr:=HP.cr
  have nrt:=HP.nrt
  have ntr:=HP.ntr
  have lrb:=HP.lrb
  have ltb:=HP.ltb
  have wb:=HP.regW htl (r:=ib) (by omega)
  rw [HVb.out] at wb
  obtain ⟨wb,wc,hwv,hwb,hlw⟩:=HP.D.wordsB (by show 0 < s.words.length; omega)
  have ntw:=HP.D.fam.ne HP.btb hwb (by simp)
  have nwt:=HP.D.fam.ne hwb HP.btb (by simp)
  have nrw:=HP.D.fam.ne HP.brb hwb (by simp)
  have nwr:=HP.D.fam.ne hwb HP.brb (by simp)
  have c6:=HP.D.c6
  rw [hwv,show (stepS s t).words.length=s.words.length from rfl,hwl] at c6
  have c6':=(World.cell?_of_block (w:=w1) (a:=⟨sb,6,none⟩) (Below.heap_setCell _ _ _ _ HP.nst)).symm.trans c6
  have co:=HP.D.word hwb (r:=ia) (by show ia < s.words.length; omega)
  have co':=(World.cell?_of_block (w:=w1) (a:=⟨wb,ia,none⟩) (Below.heap_setCell _ _ _ _ nwt)).symm.trans co
  have fo:=HP.D.fam.frozen hwb ia
  have fo':=(World.frozen?_of_block (w:=w1) (a:=⟨wb,ia,none⟩) (Below.heap_setCell _ _ _ _ nwt)).symm.trans fo
  have fb:=HP.frz ib
  have nst:=HP.nst
  have nts:=HP.nts
  have lsb:=HP.lsb
  have lwb:wb < w1.heap.size:=by simpa [World.setCell] using hlw
  rw [show (stepS s t).words.getD ia 0=s.words.getD ia 0 from rfl,HVW.out] at co'
  have HF:Hid (∀ o,DSt (((w1.setCell ⟨tb,t*3,none⟩ (.int .i64 ((pc:Int)+1))).alloc o).setCell ⟨rb,ib,none⟩ (.int .i64 0)) B P sb v (setR (stepS s t) t (ib:Int) 0)∧Moved w (((w1.setCell ⟨tb,t*3,none⟩ (.int .i64 ((pc:Int)+1))).alloc o).setCell ⟨rb,ib,none⟩ (.int .i64 0)) v v):=fun o=>⟨(HP.D.alloc o).setReg HP.brb (by rw [hsl]; exact htl) ib 0,(HP.M.alloc o).put HP.brb ib _⟩
  clear HP HPRE HNX hwv hwb c6 co fo hlw
  go_wp2
  go_quiet (fail)
  go_wp2
  all_goals go_end0
  all_goals refine ⟨rfl,v,?_⟩
  all_goals rw [HST.out]
  all_goals exact ⟨DSt.same (HF.out _).1 rfl,Moved.same (HF.out _).2 rfl rfl rfl rfl⟩
end
section
open Go.RowKit
def StepQ (B:Nat) (Q:Cd) (sb mb:Nat) (v:Rp→Value) (w:World) (s':Sx) (e:Ending) (w':World):Prop:=e=.returned (.bool (!s'.fell))∧∃ v',QSt w' B Q sb mb v' s'∧Moved w w' v v'
def ChgQ (B:Nat) (Q:Cd) (sb mb:Nat) (v:Rp→Value) (w:World) (s':Sx) (r:Value) (e:Ending) (w':World):Prop:=e=.returned r∧∃ v',QSt w' B Q sb mb v' s'∧Moved w w' v v'∧v' .st=v .st∧v' .thr=v .thr∧v' .prints=v .prints∧∀ u,v' (.regs u)=v (.regs u)
structure MPre (w:World) (B:Nat) (Q:Cd) (sb mb:Nat) (v:Rp→Value) (s:Sx) (t:Nat):Prop where
 hs:QSt w B Q sb mb v s
 hB:B≤w.heap.size
 hn:Q.nt=s.ths.length
 h4:s.ths.length≤4
 ht:t < s.ths.length
 hm:s.words.length≤64
 hl:s.own.length≤4
 hw:(thOf s t).wait.length≤3
 hok:∀ x,x∈(thOf s t).wait→(0≤x.wh∧x.wh < (if x.lk then s.own.length else s.words.length:Nat))∧(x.lk=true→x.what=0)
 bare:Q.K.bf=false→(thOf s t).wait=[]
theorem MPre.same {w W:World} {B:Nat} {Q:Cd} {sb mb:Nat} {v:Rp→Value} {s:Sx} {t:Nat} (h:MPre w B Q sb mb v s t) (e:W.heap=w.heap):MPre W B Q sb mb v s t:=⟨h.hs.same e,by rw [e]; exact h.hB,h.hn,h.h4,h.ht,h.hm,h.hl,h.hw,h.hok,h.bare⟩
theorem MPre.below {w W:World} {B:Nat} {Q:Cd} {sb mb:Nat} {v:Rp→Value} {s:Sx} {t:Nat} (h:MPre w B Q sb mb v s t) (e:Below w.heap.size w W):MPre W B Q sb mb v s t:=⟨h.hs.below e,Nat.le_trans h.hB e.size,h.hn,h.h4,h.ht,h.hm,h.hl,h.hw,h.hok,h.bare⟩
def placesW (mode:Int) (l:List Wt):List Nat:=(List.range l.length).filter fun k=>mayW mode l k
structure MLaw (K:Mk):Prop where
 notTr:K.bty≠380∧K.lty≠380∧K.sty≠380
 mode0:K.bf=false→K.mode=0
 mode1:K.bf=true→0 < K.mode
 mHas : ∀ (w : World) (B : Nat) (Q : Cd) (sb mb : Nat) (v : Rp → Value) (s : Sx), Q.K = K → QSt w B Q sb mb v s → (method 380 K.tid (.pointer (some ⟨Q.top mb, 0, none⟩)) "Has").run Tryz.prog w = .ok (181, .pointer (some ⟨mb, 0, none⟩)) w
 mAble : ∀ (a : Addr) (w : World), (method 380 K.tid (.pointer (some a)) "Able").run Tryz.prog w = .ok (K.able, .pointer (some a)) w
 cAble:∀ (xs:Array Value) (w:World),(callFunc K.able xs).run Tryz.prog w=.ok (.enter K.able xs) w
 mLoad : ∀ (a : Addr) (w : World), (method 380 K.tid (.pointer (some a)) "Load").run Tryz.prog w = .ok (K.load, .pointer (some a)) w
 cLoad:∀ (xs:Array Value) (w:World),(callFunc K.load xs).run Tryz.prog w=.ok (.enter K.load xs) w
 mStore : ∀ (a : Addr) (w : World), (method 380 K.tid (.pointer (some a)) "Store").run Tryz.prog w = .ok (K.store, .pointer (some a)) w
 cStore:∀ (xs:Array Value) (w:World),(callFunc K.store xs).run Tryz.prog w=.ok (.enter K.store xs) w
 mSwap : ∀ (w : World) (B : Nat) (Q : Cd) (sb mb : Nat) (v : Rp → Value) (s : Sx), Q.K = K → QSt w B Q sb mb v s → (method 380 K.tid (.pointer (some ⟨Q.top mb, 0, none⟩)) "Swap").run Tryz.prog w = .ok (185, .pointer (some ⟨mb, 0, none⟩)) w
 mLock : ∀ (w : World) (B : Nat) (Q : Cd) (sb mb : Nat) (v : Rp → Value) (s : Sx), Q.K = K → QSt w B Q sb mb v s → (method 380 K.tid (.pointer (some ⟨Q.top mb, 0, none⟩)) "Lock").run Tryz.prog w = .ok (183, .pointer (some ⟨mb, 0, none⟩)) w
 mUnlock : ∀ (a : Addr) (w : World), (method 380 K.tid (.pointer (some a)) "Unlock").run Tryz.prog w = .ok (K.unlock, .pointer (some a)) w
 cUnlock:∀ (xs:Array Value) (w:World),(callFunc K.unlock xs).run Tryz.prog w=.ok (.enter K.unlock xs) w
 mWaiting : ∀ (a : Addr) (w : World), (method 380 K.tid (.pointer (some a)) "Waiting").run Tryz.prog w = .ok (K.waiting, .pointer (some a)) w
 cWaiting:∀ (xs:Array Value) (w:World),(callFunc K.waiting xs).run Tryz.prog w=.ok (.enter K.waiting xs) w
 mFinish : ∀ (a : Addr) (w : World), (method 380 K.tid (.pointer (some a)) "Finish").run Tryz.prog w = .ok (K.finish, .pointer (some a)) w
 cFinish:∀ (xs:Array Value) (w:World),(callFunc K.finish xs).run Tryz.prog w=.ok (.enter K.finish xs) w
 mWords : ∀ (w : World) (B : Nat) (Q : Cd) (sb mb : Nat) (v : Rp → Value) (s : Sx), Q.K = K → QSt w B Q sb mb v s → (method 380 K.tid (.pointer (some ⟨Q.top mb, 0, none⟩)) "Words").run Tryz.prog w = .ok (189, .pointer (some ⟨mb, 0, none⟩)) w
 able:∀ (w:World) (B:Nat) (Q:Cd) (sb mb:Nat) (v:Rp→Value) (s:Sx) (t:Nat) (op a b c:Int),Q.K=K→MPre w B Q sb mb v s t→(op=17→0≤a∧a < (s.own.length:Int)) →
  Calls Tryz.prog K.able #[.pointer (some ⟨Q.top mb,0,none⟩),.int .i64 t,ints4 op a b c] w fun e w'=>e=.returned (.bool (ableO s.own (thOf s t).wait.length op a))∧Below w.heap.size w w'
 load:∀ (w:World) (B:Nat) (Q:Cd) (sb mb:Nat) (v:Rp→Value) (s:Sx) (t x:Nat),Q.K=K→MPre w B Q sb mb v s t→x < s.words.length →
  Calls Tryz.prog K.load #[.pointer (some ⟨Q.top mb,0,none⟩),.int .i64 t,.int .i64 x] w fun e w'=>e=.returned (.int .i64 (findsW s t x))∧Below w.heap.size w w'
 store:∀ (w:World) (B:Nat) (Q:Cd) (sb mb:Nat) (v:Rp→Value) (s:Sx) (t x:Nat) (y:Int),Q.K=K→MPre w B Q sb mb v s t→x < s.words.length→(thOf s t).wait.length < 3 →
  Calls Tryz.prog K.store #[.pointer (some ⟨Q.top mb,0,none⟩),.int .i64 t,.int .i64 x,.int .i64 y] w (ChgQ B Q sb mb v w (storeW K.mode s t ⟨false,x,y⟩) (.tuple #[]))
 unlockY:∀ (w:World) (B:Nat) (Q:Cd) (sb mb:Nat) (v:Rp→Value) (s:Sx) (t x:Nat),Q.K=K→MPre w B Q sb mb v s t→x < s.own.length→(thOf s t).wait.length < 3→s.own.getD x 0=t→((thOf s t).wait.any fun z=>z.lk && decide (z.wh=x))=false →
  Calls Tryz.prog K.unlock #[.pointer (some ⟨Q.top mb,0,none⟩),.int .i64 t,.int .i64 x] w (ChgQ B Q sb mb v w (storeW K.mode s t ⟨true,x,0⟩) (.bool true))
 unlockN:∀ (w:World) (B:Nat) (Q:Cd) (sb mb:Nat) (v:Rp→Value) (s:Sx) (t x:Nat),Q.K=K→MPre w B Q sb mb v s t→x < s.own.length→(¬ s.own.getD x 0=t∨((thOf s t).wait.any fun z=>z.lk && decide (z.wh=x))=true) →
  Calls Tryz.prog K.unlock #[.pointer (some ⟨Q.top mb,0,none⟩),.int .i64 t,.int .i64 x] w fun e w'=>e=.returned (.bool false)∧Below w.heap.size w w'
 finish:∀ (w:World) (B:Nat) (Q:Cd) (sb mb:Nat) (v:Rp→Value) (s:Sx) (X:Nat→Nat→Nat→Int) (t k:Nat),Q.K=K→MPre w B Q sb mb v s t→(∀ x,x∈(thOf s t).wait→x.lk=true→s.own.getD x.wh.toNat 0=(t:Int))→k < (thOf s t).wait.length→mayW K.mode (thOf s t).wait k=true →
  Calls Tryz.prog K.finish #[.pointer (some ⟨Q.top mb,0,none⟩),.int .i64 t,.int .i64 k] w (ChgQ B Q sb mb v w (doX X K.mode s (8*t+k+1)) (.tuple #[]))
 waiting:∀ (w:World) (B:Nat) (Q:Cd) (sb mb:Nat) (v:Rp→Value) (s:Sx) (t fid:Nat) (caps:Array Value) (I:Nat→World→Prop),Q.K=K→(∀ (xs:Array Value) (w:World),(callFunc fid xs).run Tryz.prog w=.ok (.enter fid xs) w)→(∀ j W,I j W→MPre W B Q sb mb v s t)→(∀ j W k,I j W→I j (W.drewN k))→I 0 w →
  (∀ j W,j < (placesW K.mode (thOf s t).wait).length→I j W→Calls Tryz.prog fid (#[.int .i64 ((placesW K.mode (thOf s t).wait).getD j 0:Nat)]++caps) W fun e W'=>e=.returned (.tuple #[])∧I (j+1) W') →
  Calls Tryz.prog K.waiting #[.pointer (some ⟨Q.top mb,0,none⟩),.int .i64 t,.func (.func fid) #[] caps] w fun e w'=>e=.returned (.tuple #[])∧I (placesW K.mode (thOf s t).wait).length w'
end
end Go.Proofs.YtelckcpjmekgcacGreatDoor
