import Derived.Test.YtelckcpjmekgcacGreatDoorWorkP
import Derived.ProofKit
import Derived.Deep.Slices
import Derived.Test.YtelckcpjmekgcacGreatDoorDSt2
namespace Go.Proofs.YtelckcpjmekgcacGreatDoor
set_option maxHeartbeats 3200000
set_option maxRecDepth 100000
section
open Go.RowKit
attribute [local go_sem ↓] appS_eq
theorem clone_some (w:World) (sa:Addr) (l:List Int) (c:Nat) (h:SIs w (some sa) l) (hl:l.length*8≤140737488355328) :
  Calls Tryz.prog 48 #[.slice (some sa) l.length c] w fun e w'=>∃ g cap,e=.returned (.slice (some ⟨g,0,none⟩) l.length cap)∧w.heap.size≤g∧w'.ownsRow w.heap.size 3 1 (.slice (some ⟨g,0,none⟩) l.length cap) l.length (intsV l)∧Below w.heap.size w w':=by
 obtain ⟨g,cap,w3,r1,r2,r3,r4,_⟩:=app_src w w.heap.size (Nat.le_refl _) (some sa) l c h hl
 have HF:Hid (Below w.heap.size w w3):=((Below.refl _ _).alloc (Nat.le_refl _) _).grown r3 (by simp) (fun k hk=>by simp at hk; omega)
 have hne:=fun W=>Lib.run_eql_slice_nil (P:=Tryz.prog) W 23 3 (some sa) l.length c 0 0 Tryz.underlying23
 obtain ⟨m,hm⟩:∃ m,l.length=m:=⟨_,rfl⟩
 rw [hm] at r1 r2 hne ⊢
 clear h hl r3 hm
 go_enter Tryz.func48,Tryz.ntmps48
 go_wp2
 go_ret
 exact ⟨g,cap,rfl,r4,r2,HF.out⟩
theorem clone_nil (w:World):Calls Tryz.prog 48 #[nilV] w fun e w'=>e=.returned nilV∧w=w':=by
 have hne:=fun W=>Lib.run_eql_slice_nil (P:=Tryz.prog) W 23 3 none 0 0 0 0 Tryz.underlying23
 go_enter Tryz.func48,Tryz.ntmps48
 go_wp2
 go_ret
 exact ⟨rfl,rfl⟩
theorem clone_any (w:World) (sa:Option Addr) (l:List Int) (c:Nat) (h:SIs w sa l) (hnil:sa=none→l=[]∧c=0) (hl:l.length*8≤140737488355328) :
  Calls Tryz.prog 48 #[.slice sa l.length c] w fun e w'=>∃ a cap,e=.returned (.slice a l.length cap)∧w'.ownsRow w.heap.size 3 1 (.slice a l.length cap) l.length (intsV l)∧Below w.heap.size w w':=by
 cases sa with
 | none =>
  obtain ⟨rfl,rfl⟩:=hnil rfl
  refine (clone_nil w).mono fun e w' h=>⟨none,0,h.1,World.ownsRow_nil _ _ _ _,?_⟩
  rw [← h.2]; exact Below.refl _ _
 | some a=>exact (clone_some w a l c h hl).mono fun e w' ⟨g,cap,h1,_,h3,h4⟩=>⟨_,cap,h1,h3,h4⟩
end
section
open Go.RowKit
abbrev boxQ (ca:Option Addr) (n cc:Nat) (wa:Option Addr) (m wc:Nat) (lk rg:Int):Obj:=.cells #[.slice ca n cc,.slice wa m wc,.int .i64 lk,.int .i64 rg] 25
theorem box_lt {w:World} {g:Nat} {o:Obj} (h:w.heap[g]? = some o):g < w.heap.size:=by
 rcases Nat.lt_or_ge g w.heap.size with h1 | h1
 ·exact h1
 ·rw [Array.getElem?_eq_none h1] at h; cases h
theorem heap_set_same {w:World} {g i:Nat} {cs:Array Value} {t:TypeId} {u:Value} (h:w.heap[g]? = some (.cells cs t)):(w.setCell ⟨g,i,none⟩ u).heap[g]? = some (.cells (cs.setIfInBounds i u) t):=by
 simp only [World.setCell,Array.getElem?_modify,if_true,h,Option.map_some]
 rfl
theorem own_type {w:World} {B:Nat} {e t:TypeId} {size:Nat} {v:Value} {n g:Nat} {xs:List Value} {c:Array Value} (h:w.ownsRow B e size v n xs) (hg:w.heap[g]? = some (.cells c t (0,0))) (hne:e≠t):v.ownBlock≠some g:=fun e1=>by
 rcases h.2 with ⟨h0,_⟩ | ⟨g',cap,cur,hv,_,hh,_⟩
 ·rw [h0] at e1; simp [Value.ownBlock] at e1
 ·rw [hv] at e1
  have e2:g'=g:=by simpa [Value.ownBlock] using e1
  subst e2
  rw [hh] at hg
  simp only [Option.some.injEq,Obj.cells.injEq] at hg
  exact hne hg.2.1
theorem box_cell {w:World} {g i:Nat} {cs:Array Value} {t:TypeId} {u:Value} (h:w.heap[g]? = some (.cells cs t)) (hi:cs[i]? = some u):w.cell? ⟨g,i,none⟩=some u:=by
 simp [World.cell?,h,hi]
theorem box_free {w:World} {g i:Nat} {cs:Array Value} {t:TypeId} (h:w.heap[g]? = some (.cells cs t)):w.frozen? ⟨g,i,none⟩=false:=by
 simp [World.frozen?,h]
theorem box_later {w:World} {g:Nat} {o:Obj} (h:w.heap[g]? = some o) (p:Obj):(w.alloc p).heap[g]? = some o:=by
 have hl:g < w.heap.size:=by
  rcases Nat.lt_or_ge g w.heap.size with h1 | h1
  ·exact h1
  ·rw [Array.getElem?_eq_none h1] at h; cases h
 exact (((Below.refl w.heap.size w).alloc (Nat.le_refl _) p).block _ hl).trans h
theorem cell_drw {w:World} {a:Addr} {v:Value} (h:w.cell? a=some v):w.drew.cell? a=some v:=h
end
section
open Go.RowKit
theorem grown_block {w w':World} {r:Option Nat} (h:w.grownBy w' r) {g:Nat} (hg:g < w.heap.size) (hne:r≠some g):w'.heap[g]? = w.heap[g]? := h.block g hg (fun e=>hne e.symm)
theorem own_grown {w w':World} {r:Option Nat} {B:Nat} {e:TypeId} {size:Nat} {v:Value} {n:Nat} {xs:List Value} (h:w.ownsRow B e size v n xs) (hg:w.grownBy w' r) (hne:∀ g,v.ownBlock=some g→r≠some g):w'.ownsRow B e size v n xs :=
 fam_keeps h fun g e=>grown_block hg (h.lt g e).2 (hne g e)
structure InI (S:World) (b:Nat→List I4) (j i:Nat) (W:World) (cv pv:Value):Prop where
 low:Below S.heap.size S W
 code:OwnC W S.heap.size cv (rawR b j)
 pls:W.ownsRow S.heap.size 3 1 pv i (intsV ((List.range i).map fun k=>(plR b k:Int)))
 apart:∀ g,cv.ownBlock=some g→pv.ownBlock≠some g
section
variable {S W:World} {b:Nat→List I4} {j i:Nat} {cv pv:Value}
theorem InI.start (S:World) (b:Nat→List I4):InI S b 0 0 S nilV nilV:=⟨Below.refl _ _,World.ownsRow_nil _ _ _ _,World.ownsRow_nil _ _ _ _,fun g h=>by simp [Value.ownBlock] at h⟩
theorem InI.below (h:InI S b j i W cv pv) {W':World} (hb:Below W.heap.size W W'):InI S b j i W' cv pv:=⟨h.low.trans (hb.mono h.low.size),h.code.below hb,owns_below2 h.pls hb,h.apart⟩
theorem InI.place (h:InI S b j i W cv pv) {V:World} (hb:Below W.heap.size W V) {q:Nat} (hq:q=plR b i) (hi:i≤1000) :
  ∃ g cap w3,(AppS #[23,23] 23 #[pv,.slice (some ⟨V.heap.size,0,none⟩) 1 1]).run Tryz.prog (V.alloc (.cells #[.int .i64 q] 3))=.ok (.slice (some ⟨g,0,none⟩) (i+1) cap) w3∧InI S b j (i+1) w3 cv (.slice (some ⟨g,0,none⟩) (i+1) cap)∧Below S.heap.size S w3:=by
 have h0:=h.below hb
 obtain ⟨g,cap,w3,r1,r2,r3,r4⟩:=app_row (T:=23) Tryz.underlying23 infoI rfl (by omega) h0.pls (Below.refl _ V) h0.low.size 1 #[.int .i64 q] rfl (by simp [Value.oneCell']) (by omega) (by omega) (by omega)
 have hl:=h0.low.size
 have hlow:Below S.heap.size S w3:=(h0.low.alloc hl _).grown r3 (by simp; omega) (fun k hk=>by have:=(h0.pls.lt k hk).1; omega)
 refine ⟨g,cap,w3,r1,⟨hlow,?_,?_,fun k hk=>?_⟩,hlow⟩
 ·exact own_grown (show (V.alloc (.cells #[.int .i64 q] 3)).ownsRow _ _ _ _ _ _ from owns_below2 h0.code ((Below.refl _ _).alloc (Nat.le_refl _) _)) r3 (fun k hk e=>h0.apart k hk e)
 ·have e:intsV ((List.range (i+1)).map fun k=>(plR b k:Int))=intsV ((List.range i).map fun k=>(plR b k:Int))++[.int .i64 q]:=by
   rw [List.range_succ,List.map_append,hq]
   simp [intsV]
  rw [e]
  exact r2
 ·intro e
  have eg:g=k:=by simpa [Value.ownBlock] using e
  subst eg
  rcases r4 with r4 | r4
  ·exact h0.apart g hk r4
  ·have:=(h0.code.lt g hk).2
   omega
theorem InI.more (h:InI S b j i W cv pv) {V:World} (hb:Below W.heap.size W V) (sa:Option Addr) (c:Nat) (hs:SrcL V sa (cellsT (b j))) (hl:plR b j+(b j).length≤1000000) :
  ∃ v w3,(AppS #[35,35] 35 #[cv,.slice sa (b j).length c]).run Tryz.prog V=.ok v w3∧InI S b (j+1) i w3 v pv∧Below S.heap.size S w3:=by
 have h0:=h.below hb
 obtain ⟨v,w3,r1,r2,r3,r4⟩:=app_code h0.code h0.low.size sa c (b j) hs (by rw [raw_len]; exact hl)
 have hlow:Below S.heap.size S w3:=h0.low.grown r3 h0.low.size (fun k hk=>(h0.code.lt k hk).1)
 refine ⟨v,w3,r1,⟨hlow,r2,own_grown h0.pls r3 (fun g e1 e2=>h0.apart g e2 e1),fun g e1 e2=>?_⟩,hlow⟩
 rcases r4 with r4 | r4
 ·exact h0.apart g (by rw [← r4]; exact e1) e2
 ·rw [r4] at e1
  have:=(h0.pls.lt g e2).2
  have:V.heap.size=g:=by simpa using e1
  omega
theorem InI.sis (h:InI S b j i W cv pv) {a:Option Addr} {c:Nat} (hv:pv=.slice a i c):SIs W a ((List.range i).map fun k=>(plR b k:Int)):=fun k hk=>by
 have hk':k < i:=by simpa using hk
 obtain ⟨g,cap,e,hg,_⟩:=fam_block h.pls (by omega)
 rw [hv] at e
 simp only [Value.slice.injEq] at e
 refine ⟨g,0,e.1,?_⟩
 have:=fam_cell h.pls hg (intsV_at (l:=(List.range i).map fun k=>(plR b k:Int)) hk)
 rw [Nat.zero_add]
 exact this
end
structure RwI (S:World) (qb:Nat) (uv:Value) (words:List Int) (lk rg:Int) (b:Nat→Nat→List I4) (L:Nat→Nat) (k:Nat) (W:World) (cv:Value) (tv:List Value):Prop where
 low:Below S.heap.size S W
 hq:S.heap.size≤qb
 box:W.heap[qb]? = some (.cells #[cv,uv,.int .i64 lk,.int .i64 rg] 25)
 words:W.ownsRow S.heap.size 3 1 uv words.length (intsV words)
 wq:uv.ownBlock≠some qb
 code:W.ownsRow S.heap.size 35 1 cv k tv
 cq:cv.ownBlock≠some qb
 cw:∀ g,uv.ownBlock=some g→cv.ownBlock≠some g
 thr:∀ t,t < k→OwnC W S.heap.size (tv.getD t nilV) (codeR (b t) (L t))∧∀ g,(tv.getD t nilV).ownBlock=some g→g≠qb∧cv.ownBlock≠some g
section
variable {S W:World} {qb:Nat} {uv cv:Value} {words:List Int} {lk rg:Int} {b:Nat→Nat→List I4} {L:Nat→Nat} {k:Nat} {tv:List Value}
theorem RwI.below (h:RwI S qb uv words lk rg b L k W cv tv) {W':World} (hb:Below W.heap.size W W'):RwI S qb uv words lk rg b L k W' cv tv :=
 ⟨h.low.trans (hb.mono h.low.size),h.hq,(hb.block _ (box_lt h.box)).trans h.box,owns_below2 h.words hb,h.wq,owns_below2 h.code hb,h.cq,h.cw,fun t ht=>⟨(h.thr t ht).1.below hb,(h.thr t ht).2⟩⟩
theorem RwI.push (h:RwI S qb uv words lk rg b L k W cv tv) {V:World} (hb:Below W.heap.size W V) {v:Value} {T:Nat} (hT:W.heap.size≤T) (hv:OwnC V T v (codeR (b k) (L k))) (hk:k≤1000) :
  ∃ g cap w3,(AppS #[22,22] 22 #[cv,.slice (some ⟨V.heap.size,0,none⟩) 1 1]).run Tryz.prog (V.alloc (.cells #[v] 35))=.ok (.slice (some ⟨g,0,none⟩) (k+1) cap) w3∧w3.heap[qb]? = some (.cells #[cv,uv,.int .i64 lk,.int .i64 rg] 25)∧Below S.heap.size S w3 ∧
   RwI S qb uv words lk rg b L (k+1) (w3.setCell ⟨qb,0,none⟩ (.slice (some ⟨g,0,none⟩) (k+1) cap)) (.slice (some ⟨g,0,none⟩) (k+1) cap) (tv++[v]):=by
 have h0:=h.below hb
 have hl:=h0.low.size
 have hwq:qb < W.heap.size:=box_lt h.box
 have hone:v.oneCell'=true:=by
  rcases hv.2 with ⟨rfl,_⟩ | ⟨g,cap,cur,rfl,_⟩ <;> rfl
 obtain ⟨g,cap,w3,r1,r2,r3,r4⟩:=app_row (T:=22) Tryz.underlying22 infoOs rfl (by omega) h0.code (Below.refl _ V) hl 1 #[v] rfl (by simp [hone]) (by omega) (by omega) (by omega)
 have hbA:Below V.heap.size V (V.alloc (.cells #[v] 35)):=(Below.refl _ _).alloc (Nat.le_refl _) _
 have hlow:Below S.heap.size S w3:=(h0.low.alloc hl _).grown r3 (by simp; omega) (fun q hq=>(h0.code.lt q hq).1)
 have hq3:w3.heap[qb]? = some (.cells #[cv,uv,.int .i64 lk,.int .i64 rg] 25):=by
  rw [grown_block r3 (by simp; have:=box_lt h0.box; omega) h0.cq]
  exact (hbA.block _ (box_lt h0.box)).trans h0.box
 have hgq:g≠qb:=fun e=>by
  rcases r4 with r4 | r4
  ·exact h0.cq (by rw [r4,e])
  ·have:=box_lt h0.box
   omega
 have hold:∀ x,x < V.heap.size→cv.ownBlock≠some x→x≠g:=fun x hx hne e=>by
  rcases r4 with r4 | r4
  ·exact hne (by rw [r4,e])
  ·omega
 have htl:tv.length=k:=by have:=h.code.1; omega
 refine ⟨g,cap,w3,r1,hq3,hlow,⟨hlow.setCell h.hq _,h.hq,?_,?_,h.wq,?_,?_,fun x hx e=>?_,fun t ht=>?_⟩⟩
 ·rw [heap_set_same hq3]
  rfl
 ·exact owns_far (own_grown (owns_below2 h0.words hbA) r3 (fun x hx=>h0.cw x hx)) h.wq
 ·refine owns_far r2 ?_
  simp only [Value.ownBlock]
  exact fun e=>hgq (by simpa using e)
 ·simp only [Value.ownBlock]
  exact fun e=>hgq (by simpa using e)
 ·have:g=x:=by simpa [Value.ownBlock] using e
  exact hold x (h0.words.lt x hx).2 (h0.cw x hx) this.symm
 ·by_cases e:t=k
  ·subst e
   have e1:(tv++[v]).getD t nilV=v:=by simp [List.getD,← htl]
   rw [e1]
   have hvq:∀ x,v.ownBlock=some x→x≠qb∧x < V.heap.size∧cv.ownBlock≠some x:=fun x hx=>by
    have h1:=hv.lt x hx
    refine ⟨by omega,h1.2,fun e2=>?_⟩
    have:=(h.code.lt x e2).2
    omega
   refine ⟨owns_far (own_grown (owns_below2 (own_low hv (by have:=h.low.size; omega)) hbA) r3 (fun x hx=>(hvq x hx).2.2)) (fun e2=>(hvq qb e2).1 rfl),fun x hx=>⟨(hvq x hx).1,fun e2=>?_⟩⟩
   have:g=x:=by simpa [Value.ownBlock] using e2
   exact hold x (hvq x hx).2.1 (hvq x hx).2.2 this.symm
  ·have ht':t < k:=by omega
   have e1:(tv++[v]).getD t nilV=tv.getD t nilV:=by simp [List.getD,List.getElem?_append_left (show t < tv.length by omega)]
   rw [e1]
   have h1:=h0.thr t ht'
   refine ⟨owns_far (own_grown (owns_below2 h1.1 hbA) r3 (fun x hx=>(h1.2 x hx).2)) (fun e2=>(h1.2 qb e2).1 rfl),fun x hx=>⟨(h1.2 x hx).1,fun e2=>?_⟩⟩
   have:g=x:=by simpa [Value.ownBlock] using e2
   exact hold x (h1.1.lt x hx).2 (h1.2 x hx).2 this.symm
end
end
section
open Go.RowKit
theorem do_14 (w:World) (B sb:Nat) (P:Pg) (v:Rl→Value) (s:Sx) (A:Nat→Option Addr) (L C:Nat→Nat) (X:Nat→Nat→Nat→Int) (m lk rg t:Nat) (mv:Int) (_h0:0≤mv) (_h1:mv≤1000) (hq:mv/8=t) (hr:mv % 8=0) (hx:Cx w B sb P v s A L C X m lk rg t) (hop:opT X s t 0=14) :
  Calls Tryz.prog 60 #[.pointer (some ⟨sb,0,none⟩),.int .i64 mv] w (DoQ B sb P v w (orderX P.mode (stepS s t) t 14 (opT X s t 1) (opT X s t 2) (opT X s t 3))):=by
 obtain ⟨n,tb,tc,rb,rc,pc,⟨htn,hn4,hpc4⟩,HPC,c5,HNX,HPRE⟩:=hx.pre
 have htl:t < s.ths.length:=by have:=hx.ho.ths; have:=hx.ht; omega
 have hrl:(thOf s t).regs.length=rg:=hx.ho.regs t hx.ht
 have hord:=hx.hc.ord t (thOf s t).pc hx.ht hx.hlt
 have hsz:=hx.hc.L4 t hx.ht
 have hrg2:=hx.hc.rg2
 change ordE rg m lk (L t) (opT X s t 0) (opT X s t 1) (opT X s t 2) (opT X s t 3)=0 at hord
 rw [hop] at hord
 rw [hop] at HNX
 obtain ⟨a,ea⟩:∃ x,opT X s t 1=x:=⟨_,rfl⟩
 obtain ⟨b,eb⟩:∃ x,opT X s t 2=x:=⟨_,rfl⟩
 obtain ⟨c,ec⟩:∃ x,opT X s t 3=x:=⟨_,rfl⟩
 rw [ea,eb,ec] at hord HNX ⊢
 clear ea eb ec
 obtain ⟨ia,rfl,ha⟩:=toN_le (ok_jump hord)
 have hwl:s.words.length=m:=hx.ho.words
 have hol:s.own.length=lk:=hx.ho.own
 have hm64:=hx.hc.m64
 have hlk4:=hx.hc.lk4
 have hw3:=hx.ho.wlen t hx.ht
 have hthn:=hx.ho.ths
 have hpn4:=hx.hc.n4
 have hsl:(stepS s t).ths.length=s.ths.length:=stepS_len s t
 have hsw:(thOf (stepS s t) t).wait.length≤3:=by rw [stepS_wait htl]; exact hw3
 have HST:Hid (orderX P.mode (stepS s t) t 14 (ia:Int) b c=setTh s t { thOf s t with pc:=ia }):=stepS_jump htl ia
 have HX:=hiD hx
 clear hx hord hop hsz
 go_enter Tryz.func60,Tryz.ntmps60
 go_wp2_with fail
 refine Calls.mono HNX.out ?_
 rintro e w1 ⟨rfl,hb1⟩
 have HP:=HPRE.out w1 hb1
 have d5:=HP.c5
 have dp:=HP.cp
 have df:=HP.cf
 have dr:=HP.cr
 have nrt:=HP.nrt
 have ntr:=HP.ntr
 have lrb:=HP.lrb
 have ltb:=HP.ltb
 have e3:setTh (stepS s t) t { thOf (stepS s t) t with pc:=ia }=setTh s t { thOf s t with pc:=ia }:=stepS_jump htl _
 have HF:Hid (DSt (w1.setCell ⟨tb,t*3,none⟩ (.int .i64 (ia:Int))) B P sb v (setTh s t { thOf s t with pc:=ia })∧Moved w (w1.setCell ⟨tb,t*3,none⟩ (.int .i64 (ia:Int))) v v):=by
  have hs1:=HX.out.hs.below hb1
  exact ⟨hs1.setPc HP.btb htl ia,(Moved.of_below hb1).put HP.btb _ _⟩
 have HG:Hid (DSt ((w1.setCell ⟨tb,t*3,none⟩ (.int .i64 ((pc:Int)+1))).setCell ⟨tb,t*3,none⟩ (.int .i64 (ia:Int))) B P sb v (setTh s t { thOf s t with pc:=ia })∧Moved w ((w1.setCell ⟨tb,t*3,none⟩ (.int .i64 ((pc:Int)+1))).setCell ⟨tb,t*3,none⟩ (.int .i64 (ia:Int))) v v):=⟨by rw [← e3]; exact HP.D.setPc HP.btb (by rw [hsl]; exact htl) ia,HP.M.put HP.btb _ _⟩
 clear HP HPRE HNX e3
 go_wp2
 all_goals go_end0
 all_goals refine ⟨rfl,v,?_⟩
 all_goals rw [HST.out]
 all_goals first | exact ⟨DSt.same (HF.out.1.alloc _) rfl,Moved.same (HF.out.2.alloc _) rfl rfl rfl rfl⟩ | exact ⟨DSt.same (HG.out.1.alloc _) rfl,Moved.same (HG.out.2.alloc _) rfl rfl rfl rfl⟩
theorem do_15 (w:World) (B sb:Nat) (P:Pg) (v:Rl→Value) (s:Sx) (A:Nat→Option Addr) (L C:Nat→Nat) (X:Nat→Nat→Nat→Int) (m lk rg t:Nat) (mv:Int) (_h0:0≤mv) (_h1:mv≤1000) (hq:mv/8=t) (hr:mv % 8=0) (hx:Cx w B sb P v s A L C X m lk rg t) (hop:opT X s t 0=15) :
  Calls Tryz.prog 60 #[.pointer (some ⟨sb,0,none⟩),.int .i64 mv] w (DoQ B sb P v w (orderX P.mode (stepS s t) t 15 (opT X s t 1) (opT X s t 2) (opT X s t 3))):=by
 obtain ⟨n,tb,tc,rb,rc,pc,⟨htn,hn4,hpc4⟩,HPC,c5,HNX,HPRE⟩:=hx.pre
 have htl:t < s.ths.length:=by have:=hx.ho.ths; have:=hx.ht; omega
 have hrl:(thOf s t).regs.length=rg:=hx.ho.regs t hx.ht
 have hord:=hx.hc.ord t (thOf s t).pc hx.ht hx.hlt
 have hsz:=hx.hc.L4 t hx.ht
 have hrg2:=hx.hc.rg2
 change ordE rg m lk (L t) (opT X s t 0) (opT X s t 1) (opT X s t 2) (opT X s t 3)=0 at hord
 rw [hop] at hord
 rw [hop] at HNX
 obtain ⟨a,ea⟩:∃ x,opT X s t 1=x:=⟨_,rfl⟩
 obtain ⟨b,eb⟩:∃ x,opT X s t 2=x:=⟨_,rfl⟩
 obtain ⟨c,ec⟩:∃ x,opT X s t 3=x:=⟨_,rfl⟩
 rw [ea,eb,ec] at hord HNX ⊢
 clear ea eb ec
 obtain ⟨⟨ia,rfl,ha⟩,⟨ib,rfl,hb⟩⟩:=by
  have h3:=ok_zero hord
  exact (⟨toN h3.1,toN_le h3.2⟩:_∧_)
 have hwl:s.words.length=m:=hx.ho.words
 have hol:s.own.length=lk:=hx.ho.own
 have hm64:=hx.hc.m64
 have hlk4:=hx.hc.lk4
 have hw3:=hx.ho.wlen t hx.ht
 have hthn:=hx.ho.ths
 have hpn4:=hx.hc.n4
 have hsl:(stepS s t).ths.length=s.ths.length:=stepS_len s t
 have hsw:(thOf (stepS s t) t).wait.length≤3:=by rw [stepS_wait htl]; exact hw3
 obtain ⟨Va,ea⟩:∃ x,getR s t (ia:Int)=x:=⟨_,rfl⟩
 have HVa:Hid (getR s t (ia:Int)=Va):=ea
 clear ea
 by_cases hz:Va=0
 ·subst hz
  have HST:Hid (orderX P.mode (stepS s t) t 15 (ia:Int) (ib:Int) c=setTh s t { thOf s t with pc:=ib }):=by
   show (if getR (stepS s t) t (ia:Int)=0 then setTh (stepS s t) t { thOf (stepS s t) t with pc:=ib } else _)=_
   rw [stepS_getR htl,HVa.out,if_pos rfl]
   exact stepS_jump htl ib
  have HX:=hiD hx
  clear hx hord hop hsz
  go_enter Tryz.func60,Tryz.ntmps60
  go_wp2_with fail
  refine Calls.mono HNX.out ?_
  rintro e w1 ⟨rfl,hb1⟩
  have HP:=HPRE.out w1 hb1
  have d5:=HP.c5
  have dp:=HP.cp
  have df:=HP.cf
  have dr:=HP.cr
  have nrt:=HP.nrt
  have ntr:=HP.ntr
  have lrb:=HP.lrb
  have ltb:=HP.ltb
  have wa:=HP.regW htl (r:=ia) (by omega)
  rw [HVa.out] at wa
  have e3:setTh (stepS s t) t { thOf (stepS s t) t with pc:=ib }=setTh s t { thOf s t with pc:=ib }:=stepS_jump htl _
  have HF:Hid (DSt (w1.setCell ⟨tb,t*3,none⟩ (.int .i64 (ib:Int))) B P sb v (setTh s t { thOf s t with pc:=ib })∧Moved w (w1.setCell ⟨tb,t*3,none⟩ (.int .i64 (ib:Int))) v v):=by
   have hs1:=HX.out.hs.below hb1
   exact ⟨hs1.setPc HP.btb htl ib,(Moved.of_below hb1).put HP.btb _ _⟩
  have HG:Hid (DSt ((w1.setCell ⟨tb,t*3,none⟩ (.int .i64 ((pc:Int)+1))).setCell ⟨tb,t*3,none⟩ (.int .i64 (ib:Int))) B P sb v (setTh s t { thOf s t with pc:=ib })∧Moved w ((w1.setCell ⟨tb,t*3,none⟩ (.int .i64 ((pc:Int)+1))).setCell ⟨tb,t*3,none⟩ (.int .i64 (ib:Int))) v v):=⟨by rw [← e3]; exact HP.D.setPc HP.btb (by rw [hsl]; exact htl) ib,HP.M.put HP.btb _ _⟩
  clear HP HPRE HNX e3
  go_wp2
  all_goals go_end0
  all_goals refine ⟨rfl,v,?_⟩
  all_goals rw [HST.out]
  all_goals first | exact ⟨DSt.same (HF.out.1.alloc _) rfl,Moved.same (HF.out.2.alloc _) rfl rfl rfl rfl⟩ | exact ⟨DSt.same (HG.out.1.alloc _) rfl,Moved.same (HG.out.2.alloc _) rfl rfl rfl rfl⟩
 ·have HST:Hid (orderX P.mode (stepS s t) t 15 (ia:Int) (ib:Int) c=stepS s t):=by
   show (if getR (stepS s t) t (ia:Int)=0 then _ else stepS s t)=_
   rw [stepS_getR htl,HVa.out,if_neg hz]
  have HX:=hiD hx
  clear hx hord hop hsz
  go_enter Tryz.func60,Tryz.ntmps60
  go_wp2_with fail
  refine Calls.mono HNX.out ?_
  rintro e w1 ⟨rfl,hb1⟩
  have HP:=HPRE.out w1 hb1
  have d5:=HP.c5
  have dp:=HP.cp
  have df:=HP.cf
  have dr:=HP.cr
  have nrt:=HP.nrt
  have ntr:=HP.ntr
  have lrb:=HP.lrb
  have ltb:=HP.ltb
  have wa:=HP.regW htl (r:=ia) (by omega)
  rw [HVa.out] at wa
  have HF:Hid (DSt (w1.setCell ⟨tb,t*3,none⟩ (.int .i64 ((pc:Int)+1))) B P sb v (stepS s t)∧Moved w (w1.setCell ⟨tb,t*3,none⟩ (.int .i64 ((pc:Int)+1))) v v):=⟨HP.D,HP.M⟩
  clear HP HPRE HNX
  go_wp2
  all_goals go_end0
  all_goals refine ⟨rfl,v,?_⟩
  all_goals rw [HST.out]
  all_goals exact ⟨DSt.same (HF.out.1.alloc _) rfl,Moved.same (HF.out.2.alloc _) rfl rfl rfl rfl⟩
end
section
open Go.RowKit
def lastS (f:Nat→Nat) (h:Nat):Nat→Int
 | 0 => -1
 | n+1=>if f n=h then (n:Int) else lastS f h n
section
variable {f:Nat→Nat} {h:Nat}
theorem last_lt:∀ n,lastS f h n < n
 | 0=>by show (-1:Int) < _; omega
 | n+1=>by
  unfold lastS
  split
  ·omega
  ·have:=last_lt n; omega
theorem last_low:∀ n,-1≤lastS f h n
 | 0=>by show (-1:Int) ≤ -1; omega
 | n+1=>by
  unfold lastS
  split
  ·omega
  ·exact last_low n
theorem last_is:∀ n i,lastS f h n=(i:Nat)→f i=h∧∀ j,i < j→j < n→f j≠h
 | 0,i,e=>by
  have:(-1:Int)=(i:Nat):=e
  omega
 | n+1,i,e=>by
  unfold lastS at e
  by_cases hn:f n=h
  ·rw [if_pos hn] at e
   obtain rfl:n=i:=by omega
   exact ⟨hn,fun j h1 h2=>by omega⟩
  ·rw [if_neg hn] at e
   obtain ⟨h1,h2⟩:=last_is n i e
   refine ⟨h1,fun j h3 h4=>?_⟩
   rcases Nat.lt_or_ge j n with h5 | h5
   ·exact h2 j h3 h5
   ·obtain rfl:j=n:=by omega
    exact hn
theorem last_none:∀ n,lastS f h n < 0→∀ j,j < n→f j≠h
 | 0,_,j,hj=>absurd hj (Nat.not_lt_zero _)
 | n+1,e,j,hj=>by
  unfold lastS at e
  by_cases hn:f n=h
  ·rw [if_pos hn] at e; omega
  ·rw [if_neg hn] at e
   rcases Nat.lt_or_ge j n with h5 | h5
   ·exact last_none n e j h5
   ·obtain rfl:j=n:=by omega
    exact hn
theorem last_congr {g:Nat→Nat}:∀ n,(∀ i,i < n→g i=f i)→lastS g h n=lastS f h n
 | 0,_=>rfl
 | n+1,e=>by
  unfold lastS
  rw [e n (by omega),last_congr n (fun i hi=>e i (by omega))]
end
end
section
open Go.RowKit
theorem rcheck_size (ca:Option Addr) (n cc:Nat) (wa:Option Addr) (m wc:Nat) (lk rg:Int) (h:(n:Int) < 1∨4 < (n:Int)∨64 < (m:Int)) (w:World) :
  Calls Tryz.prog 13 #[prgV ca n cc wa m wc lk rg] w fun e w'=>e=.returned (ints3 1 0 0)∧Below w.heap.size w w':=by
 rcases (by omega:(n:Int) < 1∨((1≤(n:Int)∧4 < (n:Int))∨((1≤(n:Int)∧(n:Int)≤4)∧64 < (m:Int)))) with h1 | h1 | h1
 all_goals
  clear h
  go_enter Tryz.func13,Tryz.ntmps13
  go_wp2
  exact bodyPost_ret (v:=ints3 1 0 0) (by simp [results,Tryz.results13,go_sem]) rfl
   ⟨rfl,((Below.refl _ _).alloc (Nat.le_refl _) _).alloc (by simp) _⟩
theorem rcheck_range (ca:Option Addr) (n cc:Nat) (wa:Option Addr) (m wc:Nat) (lk rg:Int) (h1:1≤(n:Int)∧(n:Int)≤4) (h2:(m:Int)≤64) (h:lk < 0∨4 < lk∨rg < 1∨200 < rg) (w:World) :
  Calls Tryz.prog 13 #[prgV ca n cc wa m wc lk rg] w fun e w'=>e=.returned (ints3 3 0 0)∧Below w.heap.size w w':=by
 rcases (by omega:lk < 0∨(0≤lk∧4 < lk)∨((0≤lk∧lk≤4)∧rg < 1)∨((0≤lk∧lk≤4)∧1≤rg∧200 < rg)) with h3 | h3 | h3 | h3
 all_goals
  clear h
  go_enter Tryz.func13,Tryz.ntmps13
  go_wp2
  exact bodyPost_ret (v:=ints3 3 0 0) (by simp [results,Tryz.results13,go_sem]) rfl
   ⟨rfl,((Below.refl _ _).alloc (Nat.le_refl _) _).alloc (by simp) _⟩
def kj (x y z:Int) (k:Nat):Int:=if k=0 then x else if k=1 then y else z
theorem ks_spec {op x y z:Int} (h:kd op=some (x,y,z)) :
  (ks op).size≤3∧(∀ k (hk:k < (ks op).size),(1≤kj x y z k∧kj x y z k≤5)∧((ks op)[k].toNat:Int)=letter (kj x y z k))∧∀ k,(ks op).size≤k→k < 3→kj x y z k=0:=by
 rcases op_cases op with h1 | rfl | rfl | rfl | rfl | rfl | rfl | rfl | rfl | rfl | rfl | rfl | rfl | rfl | rfl | rfl | rfl | rfl | rfl
 ·rw [kd_out h1] at h; cases h
 all_goals
  simp only [kd] at h
  simp at h
  obtain ⟨rfl,rfl,rfl⟩:=h
  refine ⟨by decide,?_,?_⟩
  ·intro k hk
   have hk':k < 3:=Nat.lt_of_lt_of_le hk (by decide)
   rcases (by omega:k=0∨k=1∨k=2) with rfl | rfl | rfl <;> first | exact absurd hk (by decide) | exact ⟨⟨by decide,by decide⟩,rfl⟩
  ·intro k hk hk3
   rcases (by omega:k=0∨k=1∨k=2) with rfl | rfl | rfl <;> first | exact absurd hk (by decide) | decide
end
section
open Go.ChangeShapes Go.WideShapes Go.ChangeAt Go.RowKit Go.Joins Go.Deep
theorem cells25:Tryz.prog.cellsOf 25=4:=by kernel_rfl
theorem cells34:Tryz.prog.cellsOf 34=4:=by kernel_rfl
theorem cells35:Tryz.prog.cellsOf 35=1:=by kernel_rfl
theorem cells3:Tryz.prog.cellsOf 3=1:=by kernel_rfl
section
variable {H:Type} {enc:TypeId × Value→H} {w:World}
theorem four {cs:List Value} (h:cs.length=4):∃ a b c d,cs=[a,b,c,d]:=by
 match cs,h with
 | [a,b,c,d],_=>exact ⟨a,b,c,d,rfl⟩
theorem read_order {a:Addr} {k fuel:Nat} {cs:List Value} {x:DataW H × List MemPlace} (hc:w.cells? 0 (a.add k) 4=some cs) (h:DataW.trod enc Tryz.prog w 0 (fun _=>true) true fuel 34 cs=some x) :
  ∃ Y:Nat→Int,(∀ j,j < 4→w.cell? (a.add (k+j))=some (.int .i64 (Y j)))∧∀ j,j < 4→(Lit.int .i64 (Y j)).wf=true:=by
 obtain ⟨_,hl,hcell⟩:=World.cells?_some hc
 obtain ⟨y0,y1,y2,y3,n,_,_,h0,h1,h2,h3⟩:=trod_struct4 Tryz.underlying34 h
 obtain ⟨c0,c1,c2,c3,rfl⟩:=four hl
 simp only [cells3] at h0 h1 h2 h3
 obtain ⟨a0,e0,_,w0⟩:=DataW.trod_int Tryz.underlying3 h0
 obtain ⟨a1,e1,_,w1⟩:=DataW.trod_int Tryz.underlying3 h1
 obtain ⟨a2,e2,_,w2⟩:=DataW.trod_int Tryz.underlying3 h2
 obtain ⟨a3,e3,_,w3⟩:=DataW.trod_int Tryz.underlying3 h3
 simp at e0 e1 e2 e3
 subst e0 e1 e2 e3
 refine ⟨fun j=>if j=0 then a0 else if j=1 then a1 else if j=2 then a2 else a3,?_,?_⟩
 ·intro j hj
  rw [← Addr.add_add,hcell j hj]
  rcases (by omega:j=0∨j=1∨j=2∨j=3) with rfl | rfl | rfl | rfl <;> rfl
 ·intro j hj
  rcases (by omega:j=0∨j=1∨j=2∨j=3) with rfl | rfl | rfl | rfl <;> assumption
theorem read_thread {v:Value} {fuel:Nat} {x:DataW H × List MemPlace} (h:DataW.trod enc Tryz.prog w 0 (fun _=>true) true fuel 35 [v]=some x) :
  ∃ (a:Option Addr) (l c:Nat) (Y:Nat→Nat→Int),v=.slice a l c∧l≤maxLen∧∀ i,i < l→(∃ b o,a=some ⟨b,o,none⟩∧∀ j,j < 4→w.cell? ⟨b,o+(i*4+j),none⟩=some (.int .i64 (Y i j)))∧∀ j,j < 4→(Lit.int .i64 (Y i j)).wf=true:=by
 rcases open_slice Tryz.underlying35 h with ⟨hcs,_⟩ | ⟨a,len,cap,m,n,D,Pl,hcs,_,hl,hm,hmm,_,hx⟩
 ·simp at hcs
  exact ⟨none,0,0,fun _ _=>0,hcs,Nat.zero_le _,fun i hi=>absurd hi (Nat.not_lt_zero _)⟩
 ·simp at hcs hmm
  obtain ⟨Y,hY⟩:=choose_lt (α:=Nat→Int) (p:=fun i (Y:Nat→Int)=>(∀ j,j < 4→w.cell? (a.add (i*4+j))=some (.int .i64 (Y j)))∧∀ j,j < 4→(Lit.int .i64 (Y j)).wf=true) (n:=len) (fun i hi=>by
   obtain ⟨cs',h1,h2⟩:=hx i (by omega)
   rw [cells34] at h1
   exact read_order h1 h2)
  refine ⟨some a,len,cap,Y,hcs,by omega,fun i hi=>⟨?_,(hY i hi).2⟩⟩
  obtain ⟨b,o,sp⟩:=a
  have hsp:sp=none:=by simpa [Addr.add] using World.cell?_spot ((hY 0 (by omega)).1 0 (by omega))
  subst hsp
  exact ⟨b,o,rfl,fun j hj=>by rw [← Go.WideShapes.add_plain]; exact (hY i hi).1 j hj⟩
theorem read_code {v:Value} {fuel:Nat} {x:DataW H × List MemPlace} (h:DataW.trod enc Tryz.prog w 0 (fun _=>true) true fuel 22 [v]=some x) :
  ∃ (ca:Option Addr) (n cc:Nat) (A:Nat→Option Addr) (L C:Nat→Nat) (X:Nat→Nat→Nat→Int),v=.slice ca n cc∧PIn w ca n A L C X∧∀ t i j,t < n→i < L t→j < 4→(Lit.int .i64 (X t i j)).wf=true:=by
 rcases open_slice1 Tryz.underlying22 cells35 h with ⟨hcs,_⟩ | ⟨a,len,cap,m,n,V,D,Pl,hcs,_,hl,hm,hmm,_,hx⟩
 ·simp at hcs
  exact ⟨none,0,0,fun _=>none,fun _=>0,fun _=>0,fun _ _ _=>0,hcs,⟨fun t ht=>absurd ht (Nat.not_lt_zero _),fun t i ht _=>absurd ht (Nat.not_lt_zero _),fun t ht=>absurd ht (Nat.not_lt_zero _),Nat.zero_le _⟩,fun t i j ht=>absurd ht (Nat.not_lt_zero _)⟩
 ·simp at hcs hmm
  obtain ⟨A,hA⟩:=choose_lt (α:=Option Addr × Nat × Nat × (Nat→Nat→Int)) (n:=len) (p:=fun t q=>V t=.slice q.1 q.2.1 q.2.2.1∧q.2.1≤maxLen∧∀ i,i < q.2.1→(∃ b o,q.1=some ⟨b,o,none⟩∧∀ j,j < 4→w.cell? ⟨b,o+(i*4+j),none⟩=some (.int .i64 (q.2.2.2 i j)))∧∀ j,j < 4→(Lit.int .i64 (q.2.2.2 i j)).wf=true)
   (fun t ht=>let ⟨a',l,c,Y,h1,h2,h3⟩:=read_thread (hx t (by omega)).2; ⟨(a',l,c,Y),h1,h2,h3⟩)
  refine ⟨some a,len,cap,fun t=>(A t).1,fun t=>(A t).2.1,fun t=>(A t).2.2.1,fun t=>(A t).2.2.2,hcs,⟨fun t ht=>?_,fun t i ht hi=>?_,fun t ht=>(hA t ht).2.1,by unfold maxLen at hm; omega⟩,fun t i j ht hi hj=>((hA t ht).2.2 i hi).2 j hj⟩
  ·obtain ⟨b,o,sp⟩:=a
   have hsp:sp=none:=by simpa [Addr.add] using World.cell?_spot (hx 0 (by omega)).1
   subst hsp
   exact ⟨b,o,rfl,by rw [← Go.WideShapes.add_plain,(hx t (by omega)).1,(hA t ht).1]⟩
  ·obtain ⟨b,o,h1,h2⟩:=((hA t ht).2.2 i hi).1
   exact ⟨b,o,h1,by simpa using h2 0 (by omega),by simpa [Nat.add_assoc] using h2 1 (by omega),by simpa [Nat.add_assoc] using h2 2 (by omega),by simpa [Nat.add_assoc] using h2 3 (by omega)⟩
end
end
section
open Go.ChangeShapes Go.WideShapes Go.ChangeAt Go.RowKit Go.Joins Go.Deep
theorem Tryz.own:ownKnob Tryz.prog.godebug=none:=by kernel_rfl
theorem Tryz.laidOut:laidOutB Tryz.prog=true:=by kernel_rfl
theorem Tryz.readableP:Tryz.prog.readableRec 25=true:=by kernel_rfl
theorem Tryz.readableI:Tryz.prog.readableRec 23=true:=by kernel_rfl
end
end Go.Proofs.YtelckcpjmekgcacGreatDoor
