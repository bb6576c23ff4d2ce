import Derived.Test.YtelckcpjmekgcacGreatDoorFRew
namespace Go.Proofs.YtelckcpjmekgcacGreatDoor
set_option maxHeartbeats 3200000
set_option maxRecDepth 100000
section
open Go.RowKit
abbrev ordO (x:I4):Obj:=.cells #[.int .i64 x.1,.int .i64 x.2.1,.int .i64 x.2.2.1,.int .i64 x.2.2.2] 34
theorem own_one (W:World) (x:I4):OwnC (W.alloc (ordO x)) W.heap.size (.slice (some ⟨W.heap.size,0,none⟩) 1 1) [x]∧Below W.heap.size W (W.alloc (ordO x)) :=
 ⟨⟨rfl,.inr ⟨W.heap.size,1,_,rfl,Nat.le_refl _,heap_alloc_new _ _,Nat.le_refl _,by decide,rfl,rfl⟩⟩,(Below.refl _ _).alloc (Nat.le_refl _) _⟩
theorem own_two (W:World) (x:I4):∃ g cap w3,(AppS #[35,35] 35 #[.slice (some ⟨W.heap.size,0,none⟩) 1 1,.slice (some ⟨W.heap.size+1,0,none⟩) 1 1]).run Tryz.prog ((W.alloc (ordO x)).alloc (.cells #[.int .i64 12,.int .i64 0,.int .i64 0,.int .i64 0] 34))=.ok (.slice (some ⟨g,0,none⟩) 2 cap) w3∧OwnC w3 W.heap.size (.slice (some ⟨g,0,none⟩) 2 cap) [x,fenceI]∧Below W.heap.size W w3:=by
 obtain ⟨h1,h2⟩:=own_one W x
 obtain ⟨g,cap,w3,r1,r2,r3,r4⟩:=app_row (T:=35) Tryz.underlying35 infoO rfl (by omega) h1 (Below.refl _ _) (by simp) 1 #[.int .i64 12,.int .i64 0,.int .i64 0,.int .i64 0] rfl (by simp [Value.oneCell']) (by omega) (by simp) (by omega)
 rw [World.size_alloc] at r1
 exact ⟨g,cap,w3,r1,r2,(h2.alloc (by simp) _).grown r3 (by simp; omega) (fun q hq=>(h1.lt q hq).1)⟩
attribute [local go_sem ↓] appS_eq in
theorem with_any (w:World) (ca:Option Addr) (n cc:Nat) (wa:Option Addr) (words:List Int) (wc lk rg:Nat) (hv:Value) (B:Nat→Nat→Bool) (A:Nat→Option Addr) (L C:Nat→Nat) (X:Nat→Nat→Nat→Int) (hp:PIn w ca n A L C X) (hw:SIs w wa words) (hc:COk n L X words.length lk rg) (hws:WsIn w hv n L B) :
  Calls Tryz.prog 37 #[prgV ca n cc wa words.length wc lk rg,hv] w (NewQ w n words lk rg (fun t i=>bWith (B t i) (ordAt X t i)) L):=by
 obtain ⟨b,hb⟩:∃ b:Nat→Nat→List I4,b=fun t i=>bWith (B t i) (ordAt X t i):=⟨_,rfl⟩
 obtain ⟨PB,hPB⟩:∃ o:Obj,o=.cells #[.slice ca n cc,.slice wa words.length wc,.int .i64 lk,.int .i64 rg] 25:=⟨_,rfl⟩
 obtain ⟨RB,hRB⟩:∃ o:Obj,o=.cells #[nilV,nilV,.int .i64 0,.int .i64 0] 25:=⟨_,rfl⟩
 obtain ⟨g1,cap1,w1,hrun1,hq1,hR1⟩:=new_start w PB RB wa words wc lk rg hw hc.m64 b L
 have hbS:Below w.heap.size w ((w.alloc PB).alloc RB):=((Below.refl _ _).alloc (Nat.le_refl _) _).alloc (by simp) _
 have hpS:((w.alloc PB).alloc RB).heap[w.heap.size]? = some PB:=box_later (heap_alloc_new _ _) _
 have hrS:((w.alloc PB).alloc RB).heap[w.heap.size+1]? = some RB:=by have:=heap_alloc_new (w.alloc PB) RB; simpa using this
 obtain ⟨S,hS⟩:∃ V,(w.alloc PB).alloc RB=V:=⟨_,rfl⟩
 have hSs:S.heap.size=w.heap.size+1+1:=by rw [← hS]; simp
 rw [hS] at hbS hpS hrS hR1
 have HAT:Hid (∀ V,Below S.heap.size S V→Below w.heap.size w V∧V.heap[w.heap.size]? = some (.cells #[.slice ca n cc,.slice wa words.length wc,.int .i64 lk,.int .i64 rg] 25)∧V.heap[w.heap.size+1]? = some (.cells #[nilV,nilV,.int .i64 0,.int .i64 0] 25)):=fun V hV=>by
  rw [hPB] at hpS
  rw [hRB] at hrS
  exact ⟨hbS.trans (hV.mono hbS.size),(hV.block _ (box_lt hpS)).trans hpS,(hV.block _ (box_lt hrS)).trans hrS⟩
 have HB:Hid (b=fun t i=>bWith (B t i) (ordAt X t i)):=hb
 have HR1:=hiD hR1
 have HPR:Hid (PIn w ca n A L C X∧COk n L X words.length lk rg∧WsIn w hv n L B):=⟨hp,hc,hws⟩
 have hn4:=hc.n4
 rw [← hb]
 have c1:=box_cell (i:=1) hq1 rfl
 have cf:∀ i,w1.frozen? ⟨w.heap.size+1+1,i,none⟩=false:=fun i=>box_free hq1
 obtain ⟨mw,hmw⟩:∃ k,words.length=k:=⟨_,rfl⟩
 have HML:Hid (words.length=mw):=hmw
 rw [hmw] at HAT HR1
 rw [hPB,hRB,hmw] at hrun1
 simp only [nilV] at hrun1 c1
 rw [hmw]
 clear hb hPB hRB hbS hpS hrS hS hR1 hp hw hc hws hq1 hmw
 go_enter Tryz.func37,Tryz.ntmps37
 go_wp2
 obtain ⟨W,hW⟩:∃ V,w1.setCell ⟨w.heap.size+1+1,1,none⟩ (.slice (some ⟨g1,0,none⟩) mw cap1)=V:=⟨_,rfl⟩
 rw [hW] at HR1
 rw [hW]
 clear hW hrun1 c1 cf
 obtain ⟨qb,hqb⟩:∃ q,w.heap.size+1+1=q:=⟨_,rfl⟩
 have HQB:Hid (w.heap.size+1+1=qb):=hqb
 rw [hqb] at HR1
 rw [hqb]
 clear hqb
 go_loopw [6] (fun i wr=>∃ (k:Nat) (va:Option Addr) (vc:Nat) (tv:List Value),k≤n∧i=.int .i64 k∧Hid (RwI S qb (.slice (some ⟨g1,0,none⟩) mw cap1) words lk rg b L k wr (.slice va k vc) tv)) (fun i _=>n - (intOf i).toNat)
 case atStart=>exact ⟨0,none,0,[],Nat.zero_le _,rfl,HR1⟩
 case round =>
  obtain ⟨k,va,vc,tv,hk,rfl,HL⟩:=hrel
  clear HR1
  obtain ⟨hwr,hpb,hrb⟩:=HAT.out wr HL.out.low
  have p0:=box_cell (i:=0) hpb rfl
  by_cases hlt:k < n
  ·obtain ⟨cb,co,rfl,hcell⟩:=(HPR.out.1.below hwr).code k hlt
   have HRW:=hiD hwr
   obtain ⟨l,hl⟩:∃ l,L k=l:=⟨_,rfl⟩
   have hl4:l≤1000:=by rw [← hl]; exact HPR.out.2.1.L4 k hlt
   have HLK:Hid (L k=l):=hl
   rw [hl] at hcell
   obtain ⟨ak,hak⟩:∃ a,A k=a:=⟨_,rfl⟩
   rw [hak] at hcell
   have HIN:Hid (∀ V,Below wr.heap.size wr V→V.cell? ⟨w.heap.size,0,none⟩=some (.slice (some ⟨cb,co,none⟩) n cc)∧V.cell? ⟨cb,co+k,none⟩=some (.slice ak l (C k))∧∀ j,j < l→∃ ab ao gg c gt c',ak=some ⟨ab,ao,none⟩∧V.cell? ⟨ab,ao+j*4,none⟩=some (.int .i64 (X k j 0))∧V.cell? ⟨ab,ao+j*4+1,none⟩=some (.int .i64 (X k j 1))∧V.cell? ⟨ab,ao+j*4+2,none⟩=some (.int .i64 (X k j 2))∧V.cell? ⟨ab,ao+j*4+3,none⟩=some (.int .i64 (X k j 3))∧hv=.slice (some ⟨gg,0,none⟩) n c∧V.cell? ⟨gg,k,none⟩=some (.slice (some ⟨gt,0,none⟩) l c')∧V.cell? ⟨gt,j,none⟩=some (.bool (B k j))):=fun V hV=>by
    have hwV:Below w.heap.size w V:=hwr.trans (hV.mono hwr.size)
    refine ⟨(hV.cell (lt_of_cell p0)).trans p0,(hV.cell (lt_of_cell hcell)).trans hcell,fun j hj=>?_⟩
    obtain ⟨ab,ao,e1,c0,c1,c2,c3⟩:=(HPR.out.1.below hwV).ord k j hlt (by rw [hl]; exact hj)
    obtain ⟨gg,c,gt,c',e2,d1,d2⟩:=(HPR.out.2.2.below hwV) k hlt
    rw [hl] at d1 d2
    exact ⟨ab,ao,gg,c,gt,c',by rw [← hak,e1],c0,c1,c2,c3,e2,d1,d2 j hj⟩
   clear hpb hrb hwr hl hak hcell
   go_wp2
   clear p0
   obtain ⟨T,rfl⟩:∃ V,V=wr:=⟨_,rfl⟩
   go_loopw [7,8] (fun bv iv wi=>∃ (j:Nat) (ba:Option Addr) (bc:Nat) (tw:List Value),j≤l∧iv=.int .i64 j∧bv=.slice ba j bc∧Hid (BeI T (b k) j wi (.slice ba j bc) tw)) (fun _ iv _=>l - (intOf iv).toNat)
   case atStart=>exact ⟨0,none,0,[],Nat.zero_le _,rfl,rfl,BeI.start _ _⟩
   case round =>
    obtain ⟨j,ba,bc,tw,hj,rfl,rfl,HI⟩:=hrel
    obtain ⟨p0,hcell,hq⟩:=HIN.out wr HI.out.low
    by_cases hjl:j < l
    ·obtain ⟨ab,ao,gg,c,gt,c',rfl,c0,c1,c2,c3,rfl,d1,d2⟩:=hq j hjl
     clear hq
     obtain ⟨x0,e0⟩:∃ x,X k j 0=x:=⟨_,rfl⟩
     obtain ⟨x1,e1⟩:∃ x,X k j 1=x:=⟨_,rfl⟩
     obtain ⟨x2,e2⟩:∃ x,X k j 2=x:=⟨_,rfl⟩
     obtain ⟨x3,e3⟩:∃ x,X k j 3=x:=⟨_,rfl⟩
     have hord:ordAt X k j=(x0,x1,x2,x3):=by unfold ordAt; rw [e0,e1,e2,e3]
     rw [e0] at c0; rw [e1] at c1; rw [e2] at c2; rw [e3] at c3
     have hbj:b k j=bWith (B k j) (x0,x1,x2,x3):=by rw [HB.out]; show bWith (B k j) (ordAt X k j)=_; rw [hord]
     clear e0 e1 e2 e3 hord
     obtain ⟨bq,hbq⟩:∃ x,B k j=x:=⟨_,rfl⟩
     rw [hbq] at d2 hbj
     clear hbq
     have hlt2:gg < wr.heap.size:=lt_of_cell d1
     have d1u:=fun o=>cell_up d1 o
     have d2u:=fun o=>cell_up d2 o
     cases bq with
     | true =>
      obtain ⟨g3,cap3,w3,hrun3,ho3,hb3⟩:=own_two wr (x0,x1,x2,x3)
      obtain ⟨g4,cap4,w4,hrun4,hI4⟩:=HI.out.push hb3 (v:=.slice (some ⟨g3,0,none⟩) 2 cap3) (by rw [hbj]; exact ho3) (by omega)
      have HI4:=hiD hI4
      clear ho3 hb3 hI4 hbj
      simp only [ordO] at hrun3
      go_wp2_with fail
      go_roundw
      case rel=>exact ⟨j+1,_,_,_,by omega,by go_num,rfl,HI4⟩
      case measure=>simp [intOf]; omega
     | false =>
      obtain ⟨ho3,hb3⟩:=own_one wr (x0,x1,x2,x3)
      obtain ⟨g4,cap4,w4,hrun4,hI4⟩:=HI.out.push hb3 (v:=.slice (some ⟨wr.heap.size,0,none⟩) 1 1) (by rw [hbj]; exact ho3) (by omega)
      have HI4:=hiD hI4
      clear ho3 hb3 hI4 hbj
      simp only [ordO,World.size_alloc] at hrun4
      go_wp2_with fail
      go_roundw
      case rel=>exact ⟨j+1,_,_,_,by omega,by go_num,rfl,HI4⟩
      case measure=>simp [intOf]; omega
    ·have hjl':j=l:=by omega
     subst hjl'
     clear hq
     have hword:Hid (Calls Tryz.prog 71 #[.slice ba j bc,.slice ak j (C k)] wr fun e w'=>∃ v,e=.returned v∧OwnC w' wr.heap.size v (codeR (b k) (L k))∧Below wr.heap.size wr w'):=by
      rw [HLK.out]
      refine put6_any wr ba bc ak j (C k) (b k) (X k) hl4 HI.out.be (fun i hi=>?_) (fun i hi=>?_) (fun i x hi hx=>?_)
      ·obtain ⟨_,_,hq⟩:=HIN.out wr HI.out.low
       obtain ⟨ab,ao,_,_,_,_,e,c0,_⟩:=hq i hi
       exact ⟨ab,ao,e,c0⟩
      ·rw [HB.out]
       show (bWith _ _).length≤2
       unfold bWith
       split <;> simp
      ·rw [HB.out] at hx
       have hx':=bWith_in hx
       have h1:=new_led HPR.out.2.1 hlt (by rw [HLK.out]; exact hi) hx'
       rw [HLK.out] at h1
       rcases hx' with rfl | rfl
       ·exact ⟨fun e=>⟨e,h1.2.1 e⟩,fun e=>⟨e,h1.2.2 e⟩⟩
       ·exact ⟨fun e=>by simp [fenceI] at e,fun e=>by simp [fenceI] at e⟩
     go_wp2_with fail
     refine Calls.mono hword.out ?_
     rintro e w7 ⟨v7,rfl,ho7,hb7⟩
     obtain ⟨a7,c7,rfl⟩:=fam_form ho7
     have hb7':Below T.heap.size T w7:=HI.out.low.trans (hb7.mono HI.out.low.size)
     obtain ⟨g8,cap8,w8,hrun8,hbx8,hb8,hR8⟩:=HL.out.push hb7' HI.out.low.size ho7 (by omega)
     have hbx7:=(hb7'.block qb (box_lt HL.out.box)).trans HL.out.box
     have y0:=box_cell (i:=0) hbx7 rfl
     have y8:=box_cell (i:=0) hbx8 rfl
     have yf8:w8.frozen? ⟨qb,0,none⟩=false:=box_free hbx8
     have HR8:=hiD hR8
     obtain ⟨l7,hl7⟩:∃ x,(codeR (b k) (L k)).length=x:=⟨_,rfl⟩
     rw [hl7] at hrun8 HR8
     rw [hl7]
     clear hl7 ho7 hb7 hb7' hbx8 hb8 hR8 hbx7 hword p0 hcell
     go_wp2_with fail
     go_roundw
     case rel=>exact ⟨k+1,_,_,_,by omega,by go_num,HR8⟩
     case measure=>simp [intOf]; omega
  ·have hkn:k=n:=by omega
   subst hkn
   have y0:=box_cell (i:=0) HL.out.box rfl
   have y1:=box_cell (i:=1) HL.out.box rfl
   have y2:=box_cell (i:=2) HL.out.box rfl
   have y3:=box_cell (i:=3) HL.out.box rfl
   have z0:=box_cell (i:=0) hrb rfl
   have z1:=box_cell (i:=1) hrb rfl
   have z2:=box_cell (i:=2) hrb rfl
   have z3:=box_cell (i:=3) hrb rfl
   have zf:∀ i,wr.frozen? ⟨w.heap.size+1,i,none⟩=false:=fun i=>box_free hrb
   have hsz:w.heap.size+1 < wr.heap.size:=box_lt hrb
   have hlt1:w.heap.size+1 < S.heap.size:=by omega
   have HWW:=hiD hwr
   clear hrb hpb hwr HAT HPR HB
   go_wp2
   refine bodyPost_ret (v:=.agg #[.slice va k vc,.slice (some ⟨g1,0,none⟩) mw cap1,.int .i64 lk,.int .i64 rg]) (by simp [results,Tryz.results37,go_sem,z0,z1,z2,z3]) rfl ?_
   have h1:=HL.out
   have hset:∀ {e:TypeId} {size:Nat} {v:Value} {n:Nat} {xs:List Value},wr.ownsRow S.heap.size e size v n xs→((((wr.setCell ⟨w.heap.size+1,0,none⟩ (.slice va k vc)).setCell ⟨w.heap.size+1,1,none⟩ (.slice (some ⟨g1,0,none⟩) mw cap1)).setCell ⟨w.heap.size+1,2,none⟩ (.int .i64 lk)).setCell ⟨w.heap.size+1,3,none⟩ (.int .i64 rg)).ownsRow w.heap.size e size v n xs:=fun h=>own_low (ownsRow_setCell_below (ownsRow_setCell_below (ownsRow_setCell_below (ownsRow_setCell_below h hlt1 _) hlt1 _) hlt1 _) hlt1 _) (by omega)
   have hw1:w.heap.size≤w.heap.size+1:=by omega
   refine ⟨va,vc,some ⟨g1,0,none⟩,cap1,tv,by rw [HML.out],hset h1.code,fun t ht=>hset (h1.thr t ht).1,?_,(((HWW.out.setCell hw1 _).setCell hw1 _).setCell hw1 _).setCell hw1 _⟩
   have:=hset h1.words
   rw [HML.out] at this ⊢
   exact this
end
section
open Go.RowKit
def stL (f:Nat→Bool) (l j:Nat):List Bool:=(List.range l).map fun i=>if i < j then f i else false
theorem stL_len (f:Nat→Bool) (l j:Nat):(stL f l j).length=l:=by simp [stL]
theorem stL_at {f:Nat→Bool} {l j i:Nat} (hi:i < l):(stL f l j)[i]? = some (if i < j then f i else false):=by simp [stL,hi]
theorem stL_set {f:Nat→Bool} {l j:Nat}:(boolsV (stL f l j)).set j (.bool (f j))=boolsV (stL f l (j+1)):=by
 unfold boolsV
 rw [← List.map_set]
 congr 1
 apply List.ext_getElem?
 intro i
 by_cases hi:i < l
 ·rw [List.getElem?_set]
  by_cases h:j=i
  ·subst h
   rw [if_pos rfl,if_pos (by rw [stL_len]; exact hi),stL_at hi,if_pos (by omega)]
  ·rw [if_neg h,stL_at hi,stL_at hi]
   by_cases h2:i < j
   ·rw [if_pos h2,if_pos (by omega)]
   ·rw [if_neg h2,if_neg (by omega)]
 ·rw [List.getElem?_eq_none (by rw [List.length_set,stL_len]; omega),List.getElem?_eq_none (by rw [stL_len]; omega)]
theorem st_start (w:World) (f:Nat→Bool) (l:Nat) (hl:l≤1000):∃ w1,(Instr.makeSlice 82 (.int .i64 (l:Int)) (.int .i64 (l:Int))).run Tryz.prog w=.ok (.slice (some ⟨w.heap.size,0,none⟩) l l) w1∧w1.ownsRow w.heap.size 4 1 (.slice (some ⟨w.heap.size,0,none⟩) l l) l (boolsV (stL f l 0))∧Below w.heap.size w w1:=by
 obtain ⟨i,hi,hz0,hz1,hz2⟩:=info_is infoB
 obtain ⟨w1,r1,r2,r3⟩:=run_makeSlice_full (P:=Tryz.prog) w w.heap.size 82 4 i (.bool false) 1 Tryz.underlying82 hi hz0 hz1 .i64 .i64 l (by omega) (by rw [hz2]; omega) (by unfold maxLen; omega) (Nat.le_refl _)
 have hlow:Below w.heap.size w w1:=(Below.refl _ _).grown r3 (Nat.le_refl _) (fun k hk=>by cases hk)
 refine ⟨w1,by simpa using r1,?_,hlow⟩
 rw [Nat.mul_one] at r2
 have e:(Value.bool false).cells=#[Value.bool false]:=rfl
 have e2:wsL l []=stL f l 0:=by
  apply List.ext_getElem?
  intro i
  by_cases h:i < l
  ·simp [wsL,stL,h]
  ·rw [List.getElem?_eq_none (by simp [wsL]; omega),List.getElem?_eq_none (by rw [stL_len]; omega)]
 rw [e,made_bools,e2] at r2
 exact r2
structure StI (S:World) (L:Nat→Nat) (f:Nat→Nat→Bool) (k:Nat) (W:World) (wv:Value) (tv:List Value):Prop where
 low:Below S.heap.size S W
 row:W.ownsRow S.heap.size 82 1 wv k tv
 thr:∀ t,t < k→∃ g,tv.getD t nilV=.slice (some ⟨g,0,none⟩) (L t) (L t)∧W.ownsRow S.heap.size 4 1 (.slice (some ⟨g,0,none⟩) (L t) (L t)) (L t) (boolsV (stL (f t) (L t) (L t)))∧wv.ownBlock≠some g
 apart:∀ t u g,t < k→u < k→(tv.getD t nilV).ownBlock=some g→(tv.getD u nilV).ownBlock=some g→t=u
section
variable {S W:World} {L:Nat→Nat} {f:Nat→Nat→Bool} {k:Nat} {wv:Value} {tv:List Value}
theorem StI.start (S:World) (L:Nat→Nat) (f:Nat→Nat→Bool):StI S L f 0 S nilV []:=⟨Below.refl _ _,World.ownsRow_nil _ _ _ _,fun t h=>absurd h (by omega),fun t u g h=>absurd h (by omega)⟩
theorem StI.below (h:StI S L f k W wv tv) {W':World} (hb:Below W.heap.size W W'):StI S L f k W' wv tv :=
 ⟨h.low.trans (hb.mono h.low.size),owns_below2 h.row hb,fun t ht=>by
  obtain ⟨g,h1,h2,h3⟩:=h.thr t ht
  exact ⟨g,h1,owns_below2 h2 hb,h3⟩,h.apart⟩
theorem StI.push (h:StI S L f k W wv tv) {V:World} (hb:Below W.heap.size W V) {g0:Nat} (hr:V.ownsRow W.heap.size 4 1 (.slice (some ⟨g0,0,none⟩) (L k) (L k)) (L k) (boolsV (stL (f k) (L k) (L k)))) (hk:k≤1000) :
  ∃ g cap w3,(AppS #[80,80] 80 #[wv,.slice (some ⟨V.heap.size,0,none⟩) 1 1]).run Tryz.prog (V.alloc (.cells #[.slice (some ⟨g0,0,none⟩) (L k) (L k)] 82))=.ok (.slice (some ⟨g,0,none⟩) (k+1) cap) w3∧StI S L f (k+1) w3 (.slice (some ⟨g,0,none⟩) (k+1) cap) (tv++[.slice (some ⟨g0,0,none⟩) (L k) (L k)]):=by
 have h0:=h.below hb
 have hl:=h0.low.size
 obtain ⟨g,cap,w3,r1,r2,r3,r4⟩:=app_row (T:=80) Tryz.underlying80 infoBs rfl (by omega) h0.row (Below.refl _ V) hl 1 #[.slice (some ⟨g0,0,none⟩) (L k) (L k)] rfl (by simp [Value.oneCell']) (by omega) (by omega) (by omega)
 have hbA:Below V.heap.size V (V.alloc (.cells #[.slice (some ⟨g0,0,none⟩) (L k) (L k)] 82)):=(Below.refl _ _).alloc (Nat.le_refl _) _
 have hlow:Below S.heap.size S w3:=(h0.low.alloc hl _).grown r3 (by simp; omega) (fun q hq=>(h0.row.lt q hq).1)
 have hold:∀ x,x < V.heap.size→wv.ownBlock≠some x→x≠g:=fun x hx hne e=>by
  rcases r4 with r4 | r4
  ·exact hne (by rw [r4,e])
  ·omega
 have htl:tv.length=k:=by have:=h.row.1; omega
 have hlt0:=hr.lt g0 rfl
 have hk0:(tv++[Value.slice (some ⟨g0,0,none⟩) (L k) (L k)]).getD k nilV=.slice (some ⟨g0,0,none⟩) (L k) (L k):=by simp [List.getD,← htl]
 have hkt:∀ t,t < k→(tv++[Value.slice (some ⟨g0,0,none⟩) (L k) (L k)]).getD t nilV=tv.getD t nilV:=fun t ht=>by simp [List.getD,List.getElem?_append_left (show t < tv.length by omega)]
 have hlow2:∀ t x,t < k→(tv.getD t nilV).ownBlock=some x→x≠g0:=fun t x ht hx e=>by
  obtain ⟨g1,h1,h2,_⟩:=h.thr t ht
  rw [h1] at hx
  have:=(h2.lt x hx).2
  omega
 refine ⟨g,cap,w3,r1,⟨hlow,r2,fun t ht=>?_,fun t u x ht hu e1 e2=>?_⟩⟩
 rotate_left
 ·by_cases et:t=k
  ·by_cases eu:u=k
   ·omega
   ·rw [et,hk0] at e1
    rw [hkt u (by omega)] at e2
    have hx:g0=x:=by simpa [Value.ownBlock] using e1
    exact absurd hx.symm (hlow2 u x (by omega) e2)
  ·rw [hkt t (by omega)] at e1
   by_cases eu:u=k
   ·rw [eu,hk0] at e2
    have hx:g0=x:=by simpa [Value.ownBlock] using e2
    exact absurd hx.symm (hlow2 t x (by omega) e1)
   ·rw [hkt u (by omega)] at e2
    exact h.apart t u x (by omega) (by omega) e1 e2
 by_cases e:t=k
 ·subst e
  have e1:(tv++[Value.slice (some ⟨g0,0,none⟩) (L t) (L t)]).getD t nilV=.slice (some ⟨g0,0,none⟩) (L t) (L t):=by simp [List.getD,← htl]
  have hwn:wv.ownBlock≠some g0:=fun e2=>by have:=(h.row.lt g0 e2).2; omega
  refine ⟨g0,e1,own_grown (owns_below2 (own_low hr (by have:=h.low.size; omega)) hbA) r3 (fun x hx=>?_),fun e2=>?_⟩
  ·have:g0=x:=by simpa [Value.ownBlock] using hx
   rw [← this]; exact hwn
  ·have:g=g0:=by simpa [Value.ownBlock] using e2
   exact hold g0 hlt0.2 hwn this.symm
 ·have ht':t < k:=by omega
  have e1:(tv++[Value.slice (some ⟨g0,0,none⟩) (L k) (L k)]).getD t nilV=tv.getD t nilV:=by simp [List.getD,List.getElem?_append_left (show t < tv.length by omega)]
  obtain ⟨g1,h1,h2,h5⟩:=h0.thr t ht'
  refine ⟨g1,by rw [e1]; exact h1,own_grown (owns_below2 h2 hbA) r3 (fun x hx=>?_),fun e2=>?_⟩
  ·have:g1=x:=by simpa [Value.ownBlock] using hx
   rw [← this]; exact h5
  ·have:g=g1:=by simpa [Value.ownBlock] using e2
   exact hold g1 (h2.lt g1 rfl).2 h5 this.symm
theorem stL_put {g:Nat→Bool} {l i:Nat} (b:Bool):(boolsV (stL g l l)).set i (.bool b)=boolsV (stL (fun j=>if j=i then b else g j) l l):=by
 unfold boolsV
 rw [← List.map_set]
 congr 1
 apply List.ext_getElem?
 intro j
 by_cases hj:j < l
 ·rw [List.getElem?_set]
  by_cases h:i=j
  ·subst h
   rw [if_pos rfl,if_pos (by rw [stL_len]; exact hj),stL_at hj,if_pos hj,if_pos rfl]
  ·rw [if_neg h,stL_at hj,if_pos hj,stL_at hj,if_pos hj,if_neg (fun e=>h e.symm)]
 ·rw [List.getElem?_eq_none (by rw [List.length_set,stL_len]; omega),List.getElem?_eq_none (by rw [stL_len]; omega)]
theorem StI.put {n:Nat} (h:StI S L f n W wv tv) {t i g:Nat} (ht:t < n) (hg:tv.getD t nilV=.slice (some ⟨g,0,none⟩) (L t) (L t)) (b:Bool):StI S L (fun u j=>if u=t∧j=i then b else f u j) n (W.setCell ⟨g,i,none⟩ (.bool b)) wv tv:=by
 obtain ⟨g1,h1,h2,h3⟩:=h.thr t ht
 rw [hg] at h1
 have hgg:g=g1:=by simpa using h1
 subst hgg
 have hgS:=(h2.lt g rfl).1
 refine ⟨h.low.setCell (by exact hgS) _,owns_far h.row h3,fun u hu=>?_,h.apart⟩
 by_cases e:u=t
 ·subst e
  refine ⟨g,hg,?_,h3⟩
  have:=fam_put h2 (g:=g) rfl i (.bool b)
  rw [stL_put] at this
  have e2:(fun j=>if u=u∧j=i then b else f u j)=fun j=>if j=i then b else f u j:=by funext j; simp
  rw [e2]
  exact this
 ·obtain ⟨g2,k1,k2,k3⟩:=h.thr u hu
  refine ⟨g2,k1,?_,k3⟩
  have e2:(fun j=>if u=t∧j=i then b else f u j)=f u:=by funext j; simp [e]
  rw [e2]
  refine owns_far k2 (fun e3=>e ?_)
  have e4:g2=g:=by simpa [Value.ownBlock] using e3
  exact h.apart u t g2 hu ht (by rw [k1]; rfl) (by rw [hg,e4]; rfl)
theorem StI.done {n:Nat} (h:StI S L f n W wv tv):WsIn W wv n L f:=fun t ht=>by
 obtain ⟨g1,h1,h2,_⟩:=h.thr t ht
 obtain ⟨g,cap,e,hg,_⟩:=fam_block h.row (by omega)
 have htl:tv.length=n:=by have:=h.row.1; omega
 refine ⟨g,cap,g1,L t,e,fam_cell h.row hg ?_,fun i hi=>fam_cell h2 rfl (boolsV_at ?_)⟩
 ·rw [← h1]
  simp [List.getD,show t < tv.length by omega]
 ·rw [stL_at hi,if_pos hi]
end
attribute [local go_sem ↓] appS_eq in
theorem stores_st (w:World) (ca:Option Addr) (n cc:Nat) (wa:Option Addr) (m wc:Nat) (lk rg:Int) (A:Nat→Option Addr) (L C:Nat→Nat) (X:Nat→Nat→Nat→Int) (hp:PIn w ca n A L C X) (hn:n≤4) (hL:∀ t,t < n→L t≤1000) :
  Calls Tryz.prog 36 #[prgV ca n cc wa m wc lk rg] w fun e w'=>∃ S v tv,e=.returned v∧StI S L (fun t i=>wtO (X t i 0)) n w' v tv∧Below w.heap.size w S:=by
 have HP:=hiD hp
 have HL:=hiD hL
 obtain ⟨W,hW⟩:∃ V,w.alloc (.cells #[.slice ca n cc,.slice wa m wc,.int .i64 lk,.int .i64 rg] 25)=V:=⟨_,rfl⟩
 have hbW:Below w.heap.size w W:=by rw [← hW]; exact (Below.refl _ _).alloc (Nat.le_refl _) _
 have p0:W.cell? ⟨w.heap.size,0,none⟩=some (.slice ca n cc):=by rw [← hW]; exact box_cell (heap_alloc_new _ _) rfl
 have HW:=hiD hW
 have HBW:=hiD (And.intro hbW p0)
 clear hp hL hW hbW p0
 go_enter Tryz.func36,Tryz.ntmps36
 go_wp2
 rw [HW.out]
 go_loopw [3,4] (fun ov i wr=>∃ (k:Nat) (oa:Option Addr) (oc:Nat) (tv:List Value),k≤n∧i=.int .i64 k∧ov=.slice oa k oc∧Hid (StI W L (fun t i=>wtO (X t i 0)) k wr (.slice oa k oc) tv)) (fun _ i _=>n - (intOf i).toNat)
 case atStart=>exact ⟨0,none,0,[],Nat.zero_le _,rfl,rfl,StI.start _ _ _⟩
 case round =>
  obtain ⟨k,oa,oc,tv,hk,rfl,rfl,HI⟩:=hrel
  have p0:wr.cell? ⟨w.heap.size,0,none⟩=some (.slice ca n cc):=(HI.out.low.cell (lt_of_cell HBW.out.2)).trans HBW.out.2
  by_cases hlt:k < n
  ·have hwr:Below w.heap.size w wr:=HBW.out.1.trans (HI.out.low.mono HBW.out.1.size)
   obtain ⟨cb,co,rfl,hcell⟩:=(HP.out.below hwr).code k hlt
   obtain ⟨l,hl⟩:∃ l,L k=l:=⟨_,rfl⟩
   have hl4:l≤1000:=by rw [← hl]; exact HL.out k hlt
   have HLK:Hid (L k=l):=hl
   rw [hl] at hcell
   obtain ⟨ak,hak⟩:∃ a,A k=a:=⟨_,rfl⟩
   rw [hak] at hcell
   obtain ⟨w1,hrun1,hr1,hb1⟩:=st_start wr (fun i=>wtO (X k i 0)) l hl4
   have HIN:Hid (∀ V,Below wr.heap.size wr V→V.cell? ⟨w.heap.size,0,none⟩=some (.slice (some ⟨cb,co,none⟩) n cc)∧V.cell? ⟨cb,co+k,none⟩=some (.slice ak l (C k))∧∀ j,j < l→∃ ab ao,ak=some ⟨ab,ao,none⟩∧V.cell? ⟨ab,ao+j*4,none⟩=some (.int .i64 (X k j 0))):=fun V hV=>by
    refine ⟨(hV.cell (lt_of_cell p0)).trans p0,(hV.cell (lt_of_cell hcell)).trans hcell,fun j hj=>?_⟩
    obtain ⟨ab,ao,e1,c0,_⟩:=(HP.out.below (hwr.trans (hV.mono hwr.size))).ord k j hlt (by rw [hl]; exact hj)
    exact ⟨ab,ao,by rw [← hak,e1],c0⟩
   have HR1:=hiD (And.intro hr1 hb1)
   clear hr1 hb1 hl hak
   go_wp2
   clear hcell p0 hrun1
   obtain ⟨T,rfl⟩:∃ V,V=wr:=⟨_,rfl⟩
   go_loopw [6] (fun i wr=>∃ j:Nat,j≤l∧i=.int .i64 j∧Hid (wr.ownsRow T.heap.size 4 1 (.slice (some ⟨T.heap.size,0,none⟩) l l) l (boolsV (stL (fun i=>wtO (X k i 0)) l j))∧Below T.heap.size T wr)) (fun i _=>l - (intOf i).toNat)
   case atStart=>exact ⟨0,Nat.zero_le _,rfl,HR1⟩
   case round =>
    obtain ⟨j,hj,rfl,HJ⟩:=hrel
    by_cases hjl:j < l
    ·obtain ⟨p0,hcell,hq⟩:=HIN.out wr HJ.out.2
     obtain ⟨ab,ao,rfl,c0⟩:=hq j hjl
     have y0:=fam_cell HJ.out.1 (g:=T.heap.size) rfl (boolsV_at (stL_at (f:=fun i=>wtO (X k i 0)) (j:=j) hjl))
     have yf:wr.frozen? ⟨T.heap.size,j,none⟩=false:=fam_frozen HJ.out.1 rfl _
     have HJ2:Hid ((wr.setCell ⟨T.heap.size,j,none⟩ (.bool (wtO (X k j 0)))).ownsRow T.heap.size 4 1 (.slice (some ⟨T.heap.size,0,none⟩) l l) l (boolsV (stL (fun i=>wtO (X k i 0)) l (j+1)))∧Below T.heap.size T (wr.setCell ⟨T.heap.size,j,none⟩ (.bool (wtO (X k j 0))))):=by
      refine ⟨?_,HJ.out.2.setCell (Nat.le_refl _) _⟩
      rw [← stL_set]
      exact fam_put HJ.out.1 (g:=T.heap.size) rfl j (.bool (wtO (X k j 0)))
     clear hq
     go_wp2_with (go_at_call 35; refine Calls.mono (rwaits_any _ _) ?_; rintro e w' ⟨rfl,rfl⟩)
     go_roundw
     case rel=>exact ⟨j+1,by omega,by go_num,HJ2⟩
     case measure=>simp [intOf]; omega
    ·have hjl':j=l:=by omega
     subst hjl'
     obtain ⟨g8,cap8,w8,hrun8,hI8⟩:=HI.out.push HJ.out.2 (g0:=T.heap.size) (by rw [HLK.out]; exact HJ.out.1) (by omega)
     rw [HLK.out] at hrun8
     have HI8:=hiD hI8
     clear hI8
     go_wp2
     go_roundw
     case rel=>exact ⟨k+1,_,_,_,by omega,by go_num,rfl,HI8⟩
     case measure=>simp [intOf]; omega
  ·have hkn:k=n:=by omega
   subst hkn
   go_wp2
   go_ret
   exact ⟨_,_,_,rfl,HI.out,HBW.out.1⟩
end
end Go.Proofs.YtelckcpjmekgcacGreatDoor
