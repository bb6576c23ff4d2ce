import Derived.Test.YtelckcpjmekgcacGreatDoorPStep4
import Derived.RangeFuncFrom
import Derived.RangeFuncNested
import Derived.RangeFuncBound
import Derived.RangeFuncCalls
import Derived.RangeFuncLeaves
import Derived.RangeFuncBox
namespace Go.Proofs.YtelckcpjmekgcacGreatDoor
set_option maxHeartbeats 3200000
set_option maxRecDepth 100000
section
open Go.RowKit
def plV (l:List Pl):List Value:=l.flatMap fun x=>[.int .i64 (x.1:Int),.int .i64 (x.2:Int)]
theorem plV_len (l:List Pl):(plV l).length=l.length*2:=by
 induction l with
 | nil=>rfl
 | cons x r ih=>simp [plV] at ih ⊢; omega
theorem plV_append (l r:List Pl):plV (l++r)=plV l++plV r:=by simp [plV]
theorem plV_one (l:List Pl):∀ u∈plV l,u.oneCell'=true:=fun u hu=>by
 unfold plV at hu
 rw [List.mem_flatMap] at hu
 obtain ⟨x,_,hx⟩:=hu
 simp only [List.mem_cons,List.not_mem_nil,or_false] at hx
 rcases hx with rfl | rfl <;> rfl
theorem plV_at:∀ {l:List Pl} {i:Nat},i < l.length→(plV l)[i*2]? = some (.int .i64 ((l.getD i (0,0)).1:Int))∧(plV l)[i*2+1]? = some (.int .i64 ((l.getD i (0,0)).2:Int))
 | [],i,h=>absurd h (Nat.not_lt_zero _)
 | x::l,0,_=>⟨rfl,rfl⟩
 | x::l,i+1,h=>by
  have:=plV_at (l:=l) (i:=i) (by simpa using h)
  have e:∀ k,(plV (x::l))[(i+1)*2+k]? = (plV l)[i*2+k]? := fun k=>by
   rw [show (i+1)*2+k=(i*2+k)+2 by omega]
   rfl
  have e0:=e 0
  rw [Nat.add_zero,Nat.add_zero] at e0
  rw [e0,e 1]
  exact this
def PlIn (w:World) (a:Option Addr) (l:List Pl):Prop:=∀ k,k < l.length→∃ b o,a=some ⟨b,o,none⟩∧w.cell? ⟨b,o+k*2,none⟩=some (.int .i64 ((l.getD k (0,0)).1:Int))∧w.cell? ⟨b,o+k*2+1,none⟩=some (.int .i64 ((l.getD k (0,0)).2:Int))
theorem PlIn.below {w w':World} {a:Option Addr} {l:List Pl} (h:PlIn w a l) (hb:Below w.heap.size w w'):PlIn w' a l:=fun k hk=>by
 obtain ⟨b,o,e,h1,h2⟩:=h k hk
 exact ⟨b,o,e,(hb.cell (lt_of_cell h1)).trans h1,(hb.cell (lt_of_cell h2)).trans h2⟩
theorem plIn_nil (w:World) (a:Option Addr):PlIn w a []:=fun _ hk=>absurd hk (Nat.not_lt_zero _)
theorem PlIn.src {w:World} {a:Option Addr}:∀ {l:List Pl},PlIn w a l→SrcL w a (plV l):=fun {l} h j u hj=>by
 have hlt:j < l.length*2:=by
  rw [← plV_len]
  exact (List.getElem?_eq_some_iff.1 hj).1
 obtain ⟨b,o,e,h1,h2⟩:=h (j/2) (by omega)
 have hat:=plV_at (l:=l) (i:=j/2) (by omega)
 refine ⟨b,o,e,?_⟩
 rcases Nat.mod_two_eq_zero_or_one j with hm | hm
 ·have ej:j=j/2*2:=by omega
  have hj':(plV l)[j/2*2]? = some u:=by rw [← ej]; exact hj
  rw [hat.1] at hj'
  rw [show o+j=o+j/2*2 by omega,h1]
  exact hj'
 ·have ej:j=j/2*2+1:=by omega
  have hj':(plV l)[j/2*2+1]? = some u:=by rw [← ej]; exact hj
  rw [hat.2] at hj'
  rw [show o+j=o+j/2*2+1 by omega,h2]
  exact hj'
def OwnP (w:World) (B:Nat) (v:Value) (l:List Pl):Prop:=w.ownsRow B 52 2 v l.length (plV l)
theorem OwnP.below {w w':World} {B:Nat} {v:Value} {l:List Pl} (h:OwnP w B v l) (hb:Below w.heap.size w w'):OwnP w' B v l:=owns_below2 h hb
theorem ownP_nil (w:World) (B:Nat):OwnP w B nilV []:=World.ownsRow_nil _ _ _ _
theorem OwnP.form {w:World} {B:Nat} {v:Value} {l:List Pl} (h:OwnP w B v l):∃ a c,v=.slice a l.length c:=fam_form h
theorem OwnP.pl {w:World} {B:Nat} {a:Option Addr} {c:Nat} {l:List Pl} (h:OwnP w B (.slice a l.length c) l):PlIn w a l:=fun k hk=>by
 obtain ⟨g,cap,e,hg,_⟩:=fam_block h (by omega)
 simp only [Value.slice.injEq] at e
 have hat:=plV_at hk
 refine ⟨g,0,e.1,?_,?_⟩
 ·rw [Nat.zero_add]; exact fam_cell h hg hat.1
 ·rw [Nat.zero_add]; exact fam_cell h hg hat.2
theorem infoPl:(Tryz.prog.info? 52).map (fun i=>(i.zero,i.size,i.bytes))=some (some (.agg #[.int .i64 0,.int .i64 0]),2,16):=by kernel_rfl
theorem app_pl {w W:World} {B:Nat} {v:Value} {l:List Pl} (h:OwnP w B v l) (hb:Below w.heap.size w W) (hB:B≤w.heap.size) (t i:Nat) (hl:l.length≤100000) :
  ∃ g cap w3,(AppS #[46,46] 46 #[v,.slice (some ⟨W.heap.size,0,none⟩) 1 1]).run Tryz.prog (W.alloc (.cells #[.int .i64 (t:Int),.int .i64 (i:Int)] 52))=.ok (.slice (some ⟨g,0,none⟩) (l.length+1) cap) w3∧OwnP w3 B (.slice (some ⟨g,0,none⟩) (l.length+1) cap) (l++[(t,i)])∧(W.alloc (.cells #[.int .i64 (t:Int),.int .i64 (i:Int)] 52)).grownBy w3 v.ownBlock∧(v.ownBlock=some g∨g=W.heap.size+1):=by
 obtain ⟨g,cap,w3,r1,r2,r3,r4⟩:=app_row (T:=46) Tryz.underlying46 infoPl rfl (by omega) h hb hB 1 #[.int .i64 (t:Int),.int .i64 (i:Int)] rfl (by simp [Value.oneCell']) (by omega) (by omega) (by omega)
 refine ⟨g,cap,w3,r1,?_,r3,r4⟩
 unfold OwnP
 rw [List.length_append,plV_append]
 exact r2
theorem app_pl_below {w W w3:World} {B:Nat} {v:Value} {l:List Pl} {o:Obj} (h:OwnP w B v l) (hb:Below w.heap.size w W) (hg:(W.alloc o).grownBy w3 v.ownBlock) (hB:B≤w.heap.size) {S:World} (hS:Below B S W):Below B S w3:=by
 have hs:=hb.size
 exact (hS.alloc (by omega) o).grown hg (by simp; omega) (fun k hk=>(h.lt k hk).1)
theorem app_pls {w:World} {B:Nat} {v:Value} {l:List Pl} (h:OwnP w B v l) (hB:B≤w.heap.size) (sa:Option Addr) (c:Nat) (r:List Pl) (hs:PlIn w sa r) (hl:l.length+r.length≤1000000) :
  ∃ v' w3,(AppS #[46,46] 46 #[v,.slice sa r.length c]).run Tryz.prog w=.ok v' w3∧OwnP w3 B v' (l++r)∧w.grownBy w3 v.ownBlock∧(v'.ownBlock=v.ownBlock∨v'.ownBlock=some w.heap.size):=by
 obtain ⟨v',w3,h1,h2,h3,h4⟩:=app_lie (T:=46) Tryz.underlying46 infoPl rfl (by omega) h hB sa r.length c (plV r) (plV_len r) hs.src (plV_one r) hl (by omega)
 refine ⟨v',w3,h1,?_,h3,h4⟩
 unfold OwnP
 rw [List.length_append,plV_append]
 exact h2
end
section
open Go.RowKit
section
variable {w w1:World} {B:Nat} {Q:Cd} {sb mb:Nat} {v:Rp→Value} {s:Sx}
theorem QSt.pushThr (h:QSt w B Q sb mb v s) {rg gr:Nat} (hr:w.ownsRow B 3 1 (.slice (some ⟨gr,0,none⟩) rg rg) rg (intsV (List.replicate rg 0))) (hr0:v (.regs s.ths.length)=nilV) (hrf:∀ q,(v q).ownBlock≠some gr)
  {g c H:Nat} (hown:w1.ownsRow B 103 3 (.slice (some ⟨g,0,none⟩) (s.ths.length+1) c) (s.ths.length+1) (rows3 s.ths.length (pthC Q v s)++[.slice (Q.A s.ths.length) (Q.L s.ths.length) (Q.C s.ths.length),.int .i64 0,.slice (some ⟨gr,0,none⟩) rg rg])) (hgrow:w.grownBy w1 (v .thr).ownBlock) (hat:(v .thr).ownBlock=some g∨g=H) (hH:w.heap.size≤H) :
  QSt (w1.setCell ⟨sb,1,none⟩ (.slice (some ⟨g,0,none⟩) (s.ths.length+1) c)) B Q sb mb (upd (upd v (.regs s.ths.length) (.slice (some ⟨gr,0,none⟩) rg rg)) .thr (.slice (some ⟨g,0,none⟩) (s.ths.length+1) c)) { s with ths:=s.ths++[newT rg] }:=by
 obtain ⟨x,hx⟩:∃ x:Value,x=.slice (some ⟨g,0,none⟩) (s.ths.length+1) c:=⟨_,rfl⟩
 obtain ⟨y,hy⟩:∃ y:Value,y=.slice (some ⟨gr,0,none⟩) rg rg:=⟨_,rfl⟩
 have hyb:y.ownBlock=some gr:=by rw [hy]; rfl
 have hd:thOf s s.ths.length=default:=by unfold thOf; simp [List.getD]
 have h0:=h.fam.lay (r:=.regs s.ths.length) (n1:=fun q=>if q=.regs s.ths.length then rg else pN Q s q) (xs1:=fun q=>if q=.regs s.ths.length then intsV (List.replicate rg 0) else pX Q mb v s q) hyb (by rw [hr0]; rfl) hrf (by rw [if_pos rfl,if_pos rfl,hy]; exact hr) (fun q hq=>if_neg hq) (fun q hq=>if_neg hq)
 have h1:=h0.grow (r:=.thr) (n1:=pN Q { s with ths:=s.ths++[newT rg] }) (xs1:=fun q=>if q=.thr then rows3 s.ths.length (pthC Q v s)++[.slice (Q.A s.ths.length) (Q.L s.ths.length) (Q.C s.ths.length),.int .i64 0,y] else if q=.regs s.ths.length then intsV (List.replicate rg 0) else pX Q mb v s q) (by rw [hy]; exact hown) (by rw [upd_ne _ _ (by simp)]; exact hgrow) (by rw [upd_ne _ _ (by simp)]; exact hat) hH (by simp [pN]) (fun q hq=>by
  cases q with
  | thr=>exact absurd rfl hq
  | regs u =>
   show (thOf { s with ths:=s.ths++[newT rg] } u).regs.length=_
   rw [thOf_push]
   by_cases hu:u=s.ths.length
   ·rw [if_pos hu,if_pos (by rw [hu])]; simp [newT]
   ·rw [if_neg hu,if_neg (by simpa using hu)]; rfl
  | st=>rw [if_neg (by simp)]; rfl
  | words=>rw [if_neg (by simp)]; rfl
  | own=>rw [if_neg (by simp)]; rfl
  | mem=>rw [if_neg (by simp)]; rfl
  | box=>rw [if_neg (by simp)]; rfl
  | bufs=>rw [if_neg (by simp)]; rfl
  | buf u =>
   rw [if_neg (by simp)]
   show (if Q.K.bf then (thOf { s with ths:=s.ths++[newT rg] } u).wait.length else 0)=if Q.K.bf then (thOf s u).wait.length else 0
   rw [thOf_push]
   by_cases hu:u=s.ths.length
   ·rw [if_pos hu,hu,hd]; rfl
   ·rw [if_neg hu]
  | prints=>rw [if_neg (by simp)]; rfl) (if_pos rfl) (fun q hq=>if_neg hq)
 rw [← hx,← hy] at *
 refine ⟨h1.put (r:=.st) (by rw [upd_ne _ _ (by decide),upd_ne _ _ (by simp)]; exact h.bst) 1 _ (fun q=>rfl) ?_ (fun q hq=>?_),by rw [upd_ne _ _ (by decide),upd_ne _ _ (by simp)]; exact h.st,by rw [upd_ne _ _ (by decide),upd_ne _ _ (by simp)]; exact h.mem,fun hb=>by rw [upd_ne _ _ (by decide),upd_ne _ _ (by simp)]; exact h.box hb⟩
 ·rw [if_neg (by decide),if_neg (by simp)]
  simp only [pX,upd_self]
  rw [upd_ne _ _ (by decide),upd_ne _ _ (by simp)]
  rfl
 ·cases q with
  | st=>exact absurd rfl hq
  | thr =>
   rw [if_pos rfl]
   show rows3 (s.ths++[newT rg]).length (pthC Q _ { s with ths:=s.ths++[newT rg] })=_
   rw [List.length_append,List.length_singleton,rows3_snoc]
   congr 1
   ·refine rows3_congr fun a b ha=>?_
    unfold pthC
    have e1:thOf { s with ths:=s.ths++[newT rg] } a=thOf s a:=by rw [thOf_push,if_neg (by omega)]
    rw [e1,upd_ne _ _ (by simp),upd_ne _ _ (by simp; omega)]
   ·have e1:thOf { s with ths:=s.ths++[newT rg] } s.ths.length=newT rg:=by rw [thOf_push,if_pos rfl]
    unfold pthC
    rw [e1,upd_ne _ _ (by simp),upd_self]
    simp [newT]
  | regs u =>
   rw [if_neg (by simp)]
   show intsV (thOf { s with ths:=s.ths++[newT rg] } u).regs=_
   rw [thOf_push]
   by_cases hu:u=s.ths.length
   ·rw [if_pos hu,if_pos (by rw [hu])]; rfl
   ·rw [if_neg hu,if_neg (by simpa using hu)]; rfl
  | mem =>
   rw [if_neg (by simp),if_neg (by simp)]
   simp only [pX]
   rw [upd_ne _ _ (by decide),upd_ne _ _ (by simp),upd_ne _ _ (by decide),upd_ne _ _ (by simp)]
  | words=>rw [if_neg (by simp),if_neg (by simp)]; rfl
  | own=>rw [if_neg (by simp),if_neg (by simp)]; rfl
  | prints=>rw [if_neg (by simp),if_neg (by simp)]; rfl
  | box =>
   rw [if_neg (by simp),if_neg (by simp)]
   simp only [pX]
   rw [upd_ne _ _ (by decide),upd_ne _ _ (by simp)]
  | bufs =>
   rw [if_neg (by simp),if_neg (by simp)]
   simp only [pX]
   congr 1
  | buf u =>
   rw [if_neg (by simp),if_neg (by simp)]
   show (if Q.K.bf then waitV (thOf { s with ths:=s.ths++[newT rg] } u).wait else [])=if Q.K.bf then waitV (thOf s u).wait else []
   rw [thOf_push]
   by_cases hu:u=s.ths.length
   ·rw [if_pos hu,hu,hd]; rfl
   ·rw [if_neg hu]
end
def sB (words:List Int) (lk:Nat):Sx:={ ths:=[],words:=words,own:=List.replicate lk (-1),prints:=[],fell:=false }
structure MemQ (Q:Cd) (w w':World) (mb:Nat) (v:Rp→Value) (words:List Int) (lk:Nat):Prop where
 own:∀ r,r≠.st→w'.ownsRow w.heap.size (pTy Q.K r) (pSz r) (v r) (pN Q (sB words lk) r) (pX Q mb v (sB words lk) r)
 apart:∀ r q g,(v r).ownBlock=some g→(v q).ownBlock=some g→r=q
 st:v .st=nilV
 thr:v .thr=nilV
 prints:v .prints=nilV
 regs:∀ t,v (.regs t)=nilV
 mem:v .mem=boxV mb
 box:Q.K.bf=true→v .box=boxV Q.bb
 below:Below w.heap.size w w'
theorem MemQ.lt {Q:Cd} {w w':World} {mb:Nat} {v:Rp→Value} {words:List Int} {lk:Nat} (h:MemQ Q w w' mb v words lk) {r:Rp} {g:Nat} (e:(v r).ownBlock=some g):g < w'.heap.size:=by
 by_cases hr:r=.st
 ·rw [hr,h.st] at e; simp [Value.ownBlock] at e
 ·exact ((h.own r hr).lt g e).2
theorem QSt.start {w0 w W:World} {mb sb lk:Nat} {v:Rp→Value} {words:List Int} {Q:Cd} (h:MemQ Q w0 w mb v words lk) (hb:Below w.heap.size w W) (hsb:w.heap.size≤sb) (hst:W.heap[sb]? = some (.cells #[.iface Q.K.tid (.pointer (some ⟨Q.top mb,0,none⟩)),nilV,nilV] 100 (0,0))) :
  QSt W w0.heap.size Q sb mb (upd v .st (boxV sb)) (sB words lk):=by
 have hlo:=h.below.size
 refine ⟨⟨fun r=>?_,fun r q g hr hq=>?_⟩,upd_self _ _ _,by rw [upd_ne _ _ (by decide)]; exact h.mem,fun hbf=>by rw [upd_ne _ _ (by decide)]; exact h.box hbf⟩
 ·by_cases hr:r=.st
  ·subst hr
   rw [upd_self]
   have e:pX Q mb (upd v .st (boxV sb)) (sB words lk) .st=[.iface Q.K.tid (.pointer (some ⟨Q.top mb,0,none⟩)),nilV,nilV]:=by
    simp only [pX]
    rw [upd_ne _ _ (by decide),upd_ne _ _ (by decide),h.thr,h.prints]
   rw [e]
   exact fam_box (xs:=[.iface Q.K.tid (.pointer (some ⟨Q.top mb,0,none⟩)),nilV,nilV]) (by omega) hst
  ·rw [upd_ne _ _ hr]
   have e:pX Q mb (upd v .st (boxV sb)) (sB words lk) r=pX Q mb v (sB words lk) r:=by
    cases r with
    | st=>exact absurd rfl hr
    | mem=>simp only [pX]; rw [upd_ne _ _ (by decide),upd_ne _ _ (by decide)]
    | box=>simp only [pX]; rw [upd_ne _ _ (by decide)]
    | bufs=>simp only [pX]; congr 1
    | thr=>rfl
    | prints=>rfl
    | regs t=>rfl
    | words=>rfl
    | own=>rfl
    | buf t=>rfl
   rw [e]
   exact fam_keeps (h.own r hr) (fun g e=>hb.block g (h.lt e))
 ·by_cases h1:r=.st
  ·by_cases h2:q=.st
   ·rw [h1,h2]
   ·rw [h1,upd_self] at hr
    rw [upd_ne _ _ h2] at hq
    have e:sb=g:=by simpa [Value.ownBlock] using hr
    have:=h.lt hq
    omega
  ·rw [upd_ne _ _ h1] at hr
   by_cases h2:q=.st
   ·rw [h2,upd_self] at hq
    have e:sb=g:=by simpa [Value.ownBlock] using hq
    have:=h.lt hr
    omega
   ·rw [upd_ne _ _ h2] at hq
    exact h.apart r q g hr hq
structure QBeg (w W:World) (B lo sb mb:Nat) (Q:Cd) (words:List Int) (lk rg j:Nat):Prop where
 ex:∃ v,QSt W B Q sb mb v { ths:=List.replicate j (newT rg),words:=words,own:=List.replicate lk (-1),prints:=[],fell:=false }∧(∀ t,j≤t→v (.regs t)=nilV)∧∀ g,(v .thr).ownBlock=some g→lo≤g
 below:Below lo w W
theorem infoThr2:(Tryz.prog.info? 103).map (fun i=>(i.zero,i.size,i.bytes))=some (some (.agg #[nilV,.int .i64 0,nilV]),3,56):=by kernel_rfl
theorem QBeg.pushThr {w W:World} {B lo sb mb:Nat} {Q:Cd} {words:List Int} {lk rg j:Nat} (h:QBeg w W B lo sb mb Q words lk rg j) (hj:j≤10) (hB:B≤W.heap.size) (hlo:lo≤W.heap.size) (hsb:lo≤sb) (hr0:0 < rg) (hr2:rg≤1000) :
  ∃ a c g cap w3,W.cell? ⟨sb,1,none⟩=some (.slice a j c)∧(AppS #[98,98] 98 #[.slice a j c,.slice (some ⟨W.heap.size+1,0,none⟩) 1 1]).run Tryz.prog ((W.alloc (.cells (madeCells #[.int .i64 0] rg) 3)).alloc (.cells #[.slice (Q.A j) (Q.L j) (Q.C j),.int .i64 0,.slice (some ⟨W.heap.size,0,none⟩) rg rg] 103)).drew=.ok (.slice (some ⟨g,0,none⟩) (j+1) cap) w3∧w3.cell? ⟨sb,1,none⟩=some (.slice a j c)∧w3.frozen? ⟨sb,1,none⟩=false ∧
   Hid (QBeg w (w3.setCell ⟨sb,1,none⟩ (.slice (some ⟨g,0,none⟩) (j+1) cap)) B lo sb mb Q words lk rg (j+1)):=by
 obtain ⟨⟨v,hs,hv1,hvt⟩,hb⟩:=h
 obtain ⟨a,c,hv⟩:=fam_form (hs.fam.own .thr)
 have hjl:pN Q { ths:=List.replicate j (newT rg),words:=words,own:=List.replicate lk (-1),prints:=[],fell:=false } .thr=j:=by show (List.replicate j (newT rg)).length=j; simp
 rw [hjl] at hv
 have c1:=hs.c1
 rw [hv] at c1
 have hbel:Below W.heap.size W (W.alloc (.cells (madeCells #[.int .i64 0] rg) 3)).drew:=((Below.refl _ _).alloc (Nat.le_refl _) _).drew
 obtain ⟨g,cap,w3,r1,r2,r3,r4⟩:=app_row (T:=98) Tryz.underlying98 infoThr2 rfl (by omega) (hs.fam.own .thr) hbel hB 1 #[.slice (Q.A j) (Q.L j) (Q.C j),.int .i64 0,.slice (some ⟨W.heap.size,0,none⟩) rg rg] rfl (by simp [Value.oneCell']) (by omega) (by rw [hjl]; omega) (by omega)
 have hne:some sb≠(v .thr).ownBlock:=fun e=>absurd (hs.fam.apart _ _ sb hs.bst e.symm) (by simp)
 have hlt:sb < W.heap.size:=lt_of_cell c1
 have hreg:((W.alloc (.cells (madeCells #[.int .i64 0] rg) 3)).drew.alloc (.cells #[.slice (Q.A j) (Q.L j) (Q.C j),.int .i64 0,.slice (some ⟨W.heap.size,0,none⟩) rg rg] 103)).ownsRow B 3 1 (.slice (some ⟨W.heap.size,0,none⟩) rg rg) rg (intsV (List.replicate rg 0)):=by
  refine World.ownsRow.alloc ?_ _
  refine ⟨by simp [intsV_len],Or.inr ⟨W.heap.size,rg,madeCells #[.int .i64 0] rg,rfl,hB,?_,Nat.le_refl _,by unfold maxLen; omega,by simp [size_madeCells],?_⟩⟩
  ·exact heap_alloc_new W _
  ·rw [made_ints]
   rw [List.take_of_length_le (by simp [intsV_len])]
 have epx:pX Q mb v { ths:=List.replicate j (newT rg),words:=words,own:=List.replicate lk (-1),prints:=[],fell:=false } .thr=rows3 j (pthC Q v { ths:=List.replicate j (newT rg),words:=words,own:=List.replicate lk (-1),prints:=[],fell:=false }):=by
  show rows3 (List.replicate j (newT rg)).length _=_
  rw [List.length_replicate]
 rw [hjl,epx] at r2
 have hD:=(hs.below (hbel.alloc (by simp) (.cells #[.slice (Q.A j) (Q.L j) (Q.C j),.int .i64 0,.slice (some ⟨W.heap.size,0,none⟩) rg rg] 103))).pushThr hreg (hv1 _ (by simp)) (fun q e=>by have:=hs.fam.lt e; omega) (c:=cap) (g:=g) (by simp only [List.length_replicate]; exact r2) r3 r4 (by simp)
 have er:List.replicate j (newT rg)++[newT rg]=List.replicate (j+1) (newT rg):=by rw [List.replicate_succ']
 simp only [er,List.length_replicate] at hD
 rw [hv,hjl] at r1
 have e1:(W.alloc (.cells (madeCells #[.int .i64 0] rg) 3)).drew.heap.size=W.heap.size+1:=by simp
 rw [e1] at r1
 refine ⟨a,c,g,cap,w3,c1,r1,r3.cell (cell_up2 c1 _ _) hne,(r3.frozen_far ⟨sb,1,none⟩ (by show sb < _; rw [World.size_alloc,e1]; omega) hne).trans (frozen_up2 hlt (hs.fam.frozen hs.bst 1) _ _),⟨_,hD,fun t ht=>?_,fun k hk=>?_⟩,?_⟩
 ·rw [upd_ne _ _ (by simp),upd_ne _ _ (by simp; omega)]; exact hv1 t (by omega)
 ·rw [upd_self] at hk
  have:g=k:=by simpa [Value.ownBlock] using hk
  subst this
  rcases r4 with r4 | r4
  ·exact hvt g r4
  ·rw [r4]; simp; omega
 ·exact ((((hb.alloc hlo _).drew).alloc (by simp; omega) _).grown r3 (by simp; omega) (fun k hk=>hvt k hk)).setCell hsb _
attribute [local go_sem ↓] appS_eq
theorem pbegin_any (w0 w:World) (ca:Option Addr) (n cc:Nat) (wa:Option Addr) (wc lk rg mb:Nat) (v0:Rp→Value) (words:List Int) (Q:Cd) (X:Nat→Nat→Nat→Int) (h:MemQ Q w0 w mb v0 words lk) (hp:PIn w ca n Q.A Q.L Q.C X) (hn:n≤4) (hr0:0 < rg) (hr2:rg≤200) :
  Calls Tryz.prog 21 #[prgV ca n cc wa words.length wc lk rg,.iface Q.K.tid (.pointer (some ⟨Q.top mb,0,none⟩))] w fun e w'=>∃ sb v,e=.returned (.pointer (some ⟨sb,0,none⟩))∧w.heap.size≤sb∧QSt w' w0.heap.size Q sb mb v (beginX n words lk rg)∧Below w.heap.size w w':=by
 obtain ⟨PC,hPC⟩:∃ o:Obj,o=.cells #[.slice ca n cc,.slice wa words.length wc,.int .i64 (lk:Int),.int .i64 (rg:Int)] 25:=⟨_,rfl⟩
 have hb2:Below w.heap.size w ((w.alloc PC).alloc (.cells #[.iface Q.K.tid (.pointer (some ⟨Q.top mb,0,none⟩)),nilV,nilV] 100)):=((Below.refl _ _).alloc (Nat.le_refl _) _).alloc (by simp) _
 have hQ0:=QSt.start (Q:=Q) (sb:=w.heap.size+1) h hb2 (by omega) (by
  have:=heap_alloc_new (w.alloc PC) (.cells #[.iface Q.K.tid (.pointer (some ⟨Q.top mb,0,none⟩)),nilV,nilV] 100)
  rw [World.size_alloc] at this
  exact this)
 have HB:Hid (QBeg (w.alloc PC) ((w.alloc PC).alloc (.cells #[.iface Q.K.tid (.pointer (some ⟨Q.top mb,0,none⟩)),nilV,nilV] 100)) w0.heap.size (w.heap.size+1) (w.heap.size+1) mb Q words lk rg 0):=by
  refine ⟨⟨_,hQ0,fun t _=>by rw [upd_ne _ _ (by simp)]; exact h.regs t,fun g e=>?_⟩,(Below.refl _ _).alloc (by simp) _⟩
  rw [upd_ne _ _ (by simp),h.thr] at e
  simp [Value.ownBlock] at e
 have hw0:w0.heap.size≤w.heap.size:=h.below.size
 have HPC:Hid (∀ wr,Below (w.heap.size+1) (w.alloc PC) wr→wr.cell? ⟨w.heap.size,3,none⟩=some (.int .i64 (rg:Int))∧w.heap.size+1≤wr.heap.size∧∀ t,t < n→∃ b o,ca=some ⟨b,o,none⟩∧wr.cell? ⟨b,o+t,none⟩=some (.slice (Q.A t) (Q.L t) (Q.C t))):=fun wr hb=>by
  have hblk:=hb.block w.heap.size (by omega)
  rw [heap_alloc_new w PC,hPC] at hblk
  refine ⟨by simp [World.cell?,hblk],by have:=hb.size; simp at this; omega,fun t ht=>?_⟩
  obtain ⟨b,o,e,hc⟩:=hp.code t ht
  have hlt:=lt_of_cell hc
  exact ⟨b,o,e,(hb.cell (p:=⟨b,o+t,none⟩) (by show b < _; simp at hlt; omega)).trans (cell_up hc _)⟩
 have hmk:=fun W=>run_make_row' (P:=Tryz.prog) 23 3 (.int .i64 0) 8 Tryz.underlying23 infoI rfl .i64 .i64 rg (by omega) (by omega) W
 have HFIN:Hid (∀ W,QBeg (w.alloc PC) W w0.heap.size (w.heap.size+1) (w.heap.size+1) mb Q words lk rg n→∃ v,QSt W w0.heap.size Q (w.heap.size+1) mb v (beginX n words lk rg)∧Below w.heap.size w W):=fun W hW=>by
  obtain ⟨⟨v,h1,_,_⟩,h2⟩:=hW
  exact ⟨v,h1,((Below.refl _ _).alloc (Nat.le_refl _) PC).trans (h2.mono (by omega))⟩
 rw [hPC] at HB HPC HFIN
 obtain ⟨m,hm⟩:∃ m,words.length=m:=⟨_,rfl⟩
 rw [hm] at HB HPC HFIN ⊢
 clear h hp hb2 hQ0 hPC hm
 go_enter Tryz.func21,Tryz.ntmps21
 go_wp2
 go_loopw [14] (fun i wr=>∃ q:Nat,q≤n∧i=.int .i64 q∧Hid (QBeg (w.alloc (.cells #[.slice ca n cc,.slice wa m wc,.int .i64 (lk:Int),.int .i64 (rg:Int)] 25)) wr w0.heap.size (w.heap.size+1) (w.heap.size+1) mb Q words lk rg q)) (fun i _=>n - (intOf i).toNat)
 case atStart=>exact ⟨0,Nat.zero_le _,rfl,HB⟩
 case round =>
  obtain ⟨q,hq,rfl,HQ⟩:=hrel
  obtain ⟨s3,hsz,hcode⟩:=HPC.out _ HQ.out.below
  by_cases hlq:q < n
  ·obtain ⟨cb,co,rfl,hcq⟩:=hcode q hlq
   obtain ⟨a,c,g2,cap2,w4,k5,hrun2,q5,f5,HN⟩:=HQ.out.pushThr (by omega) (by omega) (by omega) (Nat.le_refl _) hr0 (by omega)
   have k5u:=cell_up k5
   have k5u2:=cell_up2 k5
   have su:=cell_up s3
   have su2:=cell_up2 s3
   clear hcode
   go_wp2
   go_region
   all_goals go_wp2
   all_goals go_roundw
   case rel=>exact ⟨q+1,by omega,by go_num,HN⟩
   case measure=>simp [intOf]; omega
  ·obtain rfl:q=n:=by omega
   clear hcode
   go_wp2
   go_ret
   obtain ⟨v,h1,h2⟩:=HFIN.out _ HQ.out
   exact ⟨_,v,rfl,by omega,h1,h2⟩
end
section
open Go.RowKit
structure LtI (S W:World) (v:Value) (l:List Pl):Prop where
 low:Below S.heap.size S W
 own:OwnP W S.heap.size v l
theorem LtI.start (S:World):LtI S S nilV []:=⟨Below.refl _ _,ownP_nil _ _⟩
theorem LtI.below {S W V:World} {v:Value} {l:List Pl} (h:LtI S W v l) (hb:Below W.heap.size W V):LtI S V v l:=⟨h.low.trans (hb.mono h.low.size),h.own.below hb⟩
theorem LtI.push {S W V:World} {a:Option Addr} {n c:Nat} {l:List Pl} (h:LtI S W (.slice a n c) l) (hn:n=l.length) (hb:Below W.heap.size W V) (t i:Nat) (hl:n≤100000) :
  ∃ g cap w3,(AppS #[46,46] 46 #[.slice a n c,.slice (some ⟨V.heap.size,0,none⟩) 1 1]).run Tryz.prog (V.alloc (.cells #[.int .i64 (t:Int),.int .i64 (i:Int)] 52))=.ok (.slice (some ⟨g,0,none⟩) (n+1) cap) w3∧LtI S w3 (.slice (some ⟨g,0,none⟩) (n+1) cap) (l++[(t,i)]):=by
 obtain ⟨g,cap,w3,r1,r2,r3,r4⟩:=app_pl h.own hb h.low.size t i (by omega)
 rw [← hn] at r1 r2
 exact ⟨g,cap,w3,r1,app_pl_below h.own hb r3 h.low.size (h.low.trans (hb.mono h.low.size)),r2⟩
attribute [local go_sem ↓] appS_eq in
theorem letting_any (w:World) (ca:Option Addr) (n cc:Nat) (wa:Option Addr) (m wc:Nat) (lk rg:Int) (A:Nat→Option Addr) (L C:Nat→Nat) (X:Nat→Nat→Nat→Int) (hp:PIn w ca n A L C X) (hn:n≤4) (hL:∀ t,t < n→L t≤1000) :
  Calls Tryz.prog 29 #[prgV ca n cc wa m wc lk rg] w fun e w'=>∃ v,e=.returned v∧OwnP w' w.heap.size v (plA L X n)∧Below w.heap.size w w':=by
 have HP:=hiD hp
 have HL:=hiD hL
 have HLN:Hid (∀ k,k≤n→(plA L X k).length≤4000):=fun k hk=>by
  have:=plA_le (X:=X) k (fun t ht=>hL t (by omega))
  have:k*1000≤4*1000:=Nat.mul_le_mul (by omega) (Nat.le_refl _)
  omega
 obtain ⟨W,hW⟩:∃ V,w.alloc (.cells #[.slice ca n cc,.slice wa m wc,.int .i64 lk,.int .i64 rg] 25)=V:=⟨_,rfl⟩
 have hbW:Below w.heap.size w W:=by rw [← hW]; exact (Below.refl _ _).alloc (Nat.le_refl _) _
 have p0:W.cell? ⟨w.heap.size,0,none⟩=some (.slice ca n cc):=by rw [← hW]; exact box_cell (heap_alloc_new _ _) rfl
 have HW:=hiD hW
 have HBW:=hiD (And.intro hbW p0)
 clear hp hL hW hbW
 go_enter Tryz.func29,Tryz.ntmps29
 go_wp2
 rw [HW.out]
 go_wp2
 clear p0
 go_loopw [3,11] (fun ov i wr=>∃ (k:Nat) (oa:Option Addr) (ol oc:Nat),k≤n∧i=.int .i64 k∧ov=.slice oa ol oc∧Hid (ol=(plA L X k).length∧LtI W wr (.slice oa ol oc) (plA L X k))) (fun _ i _=>n - (intOf i).toNat)
 case atStart=>exact ⟨0,none,0,0,Nat.zero_le _,rfl,rfl,rfl,LtI.start _⟩
 case round =>
  obtain ⟨k,oa,ol,oc,hk,rfl,rfl,HI⟩:=hrel
  by_cases hlt:k < n
  ·have hwr:Below w.heap.size w wr:=HBW.out.1.trans (HI.out.2.low.mono HBW.out.1.size)
   obtain ⟨cb,co,rfl,hcell⟩:=(HP.out.below hwr).code k hlt
   obtain ⟨l,hl⟩:∃ l,L k=l:=⟨_,rfl⟩
   have hl4:l≤1000:=by rw [← hl]; exact HL.out k hlt
   have HLK:Hid (L k=l):=hl
   rw [hl] at hcell
   obtain ⟨ak,hak⟩:∃ a,A k=a:=⟨_,rfl⟩
   rw [hak] at hcell
   have HIN:Hid (∀ V,Below W.heap.size W V→∀ j,j < l→∃ ab ao,ak=some ⟨ab,ao,none⟩∧V.cell? ⟨ab,ao+j*4,none⟩=some (.int .i64 (X k j 0))∧V.cell? ⟨ab,ao+j*4+1,none⟩=some (.int .i64 (X k j 1))∧V.cell? ⟨ab,ao+j*4+2,none⟩=some (.int .i64 (X k j 2))∧V.cell? ⟨ab,ao+j*4+3,none⟩=some (.int .i64 (X k j 3))):=fun V hV j hj=>by
    obtain ⟨ab,ao,e1,c⟩:=(HP.out.below (HBW.out.1.trans (hV.mono HBW.out.1.size))).ord k j hlt (by rw [hl]; exact hj)
    exact ⟨ab,ao,by rw [← hak,e1],c⟩
   clear hl hak hwr
   go_wp2
   clear hcell
   have HB:Hid (plA L X (k+1)=plA L X k++plT X k l):=by rw [plA,HLK.out]; exact rfl
   go_loopw [3,18] (fun ov i wi=>∃ (j:Nat) (oa:Option Addr) (ol oc:Nat),j≤l∧i=.int .i64 j∧ov=.slice oa ol oc∧ol≤4000+j∧Hid (ol=(plA L X k++plT X k j).length∧LtI W wi (.slice oa ol oc) (plA L X k++plT X k j))) (fun _ i _=>l - (intOf i).toNat)
   case atStart=>exact ⟨0,oa,ol,oc,Nat.zero_le _,rfl,rfl,by rw [HI.out.1]; exact HLN.out k (by omega),by rw [plT,List.append_nil]; exact HI.out.1,by rw [plT,List.append_nil]; exact HI.out.2⟩
   case round =>
    obtain ⟨j,oa,ol,oc,hj,rfl,rfl,hol,HJ⟩:=hrel
    by_cases hjl:j < l
    ·obtain ⟨ab,ao,rfl,c0,c1,c2,c3⟩:=HIN.out wr HJ.out.2.low j hjl
     obtain ⟨bw,hbw⟩:∃ b,wtO (X k j 0)=b:=⟨_,rfl⟩
     have HBW2:Hid (wtO (X k j 0)=bw):=hbw
     have HLW:Hid (∀ V,Calls Tryz.prog 65 #[.int .i64 (X k j 0)] V fun e w'=>e=.returned (.bool bw)∧w'=V):=fun V=>by
      rw [← hbw]
      exact letsWait_any V _
     clear hbw
     have HAL:Hid (∀ o,Below wr.heap.size wr (wr.alloc o)):=fun o=>(Below.refl _ _).alloc (Nat.le_refl _) _
     cases bw with
     | true =>
      obtain ⟨g3,cap3,w3,hrun3,hI3⟩:=HJ.out.2.push HJ.out.1 (HAL.out (.cells #[.int .i64 (X k j 0),.int .i64 (X k j 1),.int .i64 (X k j 2),.int .i64 (X k j 3)] 34)) k j (by omega)
      have HI3:Hid (ol+1=(plA L X k++plT X k (j+1)).length∧LtI W w3 (.slice (some ⟨g3,0,none⟩) (ol+1) cap3) (plA L X k++plT X k (j+1))):=by
       have e1:plA L X k++plT X k (j+1)=(plA L X k++plT X k j)++[(k,j)]:=by rw [plT,if_pos HBW2.out,List.append_assoc]
       rw [e1]
       exact ⟨by rw [List.length_append,← HJ.out.1]; rfl,hI3⟩
      rw [World.size_alloc] at hrun3
      clear hI3
      go_wp2_with (go_at_call 65; refine (HLW.out _).mono ?_; rintro e w2 ⟨rfl,rfl⟩)
      go_roundw
      case rel=>exact ⟨j+1,_,_,_,by omega,by go_num,rfl,by omega,HI3⟩
      case measure=>simp [intOf]; omega
     | false =>
      have HI3:Hid (∀ o,ol=(plA L X k++plT X k (j+1)).length∧LtI W (wr.alloc o) (.slice oa ol oc) (plA L X k++plT X k (j+1))):=fun o=>by
       have e1:plT X k (j+1)=plT X k j:=by rw [plT,if_neg (by rw [HBW2.out]; decide),List.append_nil]
       rw [e1]
       exact ⟨HJ.out.1,HJ.out.2.below (HAL.out o)⟩
      go_wp2_with (go_at_call 65; refine (HLW.out _).mono ?_; rintro e w2 ⟨rfl,rfl⟩)
      go_roundw
      case rel=>exact ⟨j+1,oa,ol,oc,by omega,by go_num,rfl,by omega,HI3.out _⟩
      case measure=>simp [intOf]; omega
    ·go_wp2
     go_roundw
     case rel=>exact ⟨k+1,oa,ol,oc,by omega,by go_num,rfl,by rw [HB.out,show l=j by omega]; exact HJ.out.1,by rw [HB.out,show l=j by omega]; exact HJ.out.2⟩
     case measure=>simp [intOf]; omega
  ·have hkn:k=n:=by omega
   subst hkn
   go_wp2
   go_ret
   exact ⟨_,rfl,own_low HI.out.2.own HBW.out.1.size,HBW.out.1.trans (HI.out.2.low.mono HBW.out.1.size)⟩
end
section
open Go.RowKit
def sePost (B:Nat) (I:List (List Pl)→World→Prop) (Fi:World→Prop) (Tl:List (List Pl)) (W:World):Exit→Act→World→Prop
 | .normal,_,W'=>Below W.heap.size W W'∧I Tl W'
 | .ret,_,W'=>(W.heap.size≤W'.heap.size∧∀ k,B≤k→k < W.heap.size→W'.heap[k]? = W.heap[k]?)∧Fi W'
 | .exit _,_,_=>False
 | .goto _,_,_=>False
 | .panic _,_,_=>False
 | .outgrown,_,_=>False
def YldOk (B lp:Nat) (J:List (List Pl)→World→Prop) (Jx:World→Prop):Prop :=
 ∀ S Tl a c V,J (S::Tl) V→PlIn V a S→(∀ b o,a=some ⟨b,o,none⟩→0 < S.length→B≤b)→YieldAt Fence.wide 0 Tryz.prog lp #[.slice a S.length c] V fun e V'=>(e=.returned (.bool true)∧J Tl V'∧Below V.heap.size V V')∨(e=.returned (.bool false)∧Jx V')
def SetsOk (gf:Nat) (lb:Array Value) (all:List (List Pl)) (w:World):Prop :=
 ∀ (lp:Nat) (J:List (List Pl)→World→Prop) (Jx:World→Prop) (W:World),Below w.heap.size w W→(∀ Ls V V',J Ls V→Below V.heap.size V V'→J Ls V')→YldOk w.heap.size lp J Jx→J all W →
  Calls Tryz.prog gf (#[.func (.yield lp) #[] #[]]++lb) W fun e W'=>(∃ v,e=.returned v)∧(J [] W'∨Jx W')
theorem below_put (W:World) {B l:Nat} (o:Obj) (h:B≤l):Below B W (W.putObj l o):=⟨rfl,rfl,rfl,by simp,fun k hk=>World.putObj_heap_other (by omega)⟩
theorem range_sets {g:Operand} {p:Tmp} {assign body:Code} {Q:Exit→Act→World→Prop} {a:Act} {w:World} {gf:Nat} {lb:Array Value} (hg:a.eval g=.func (.func gf) #[] lb) (eg:∀ args w,(callFunc gf args).run Tryz.prog w=.ok (.enter gf args) w) (all:List (List Pl)) (hseq:SetsOk gf lb all w)
  (I:List (List Pl)→World→Prop) (Fi:World→Prop) (hI:∀ Ls V V',I Ls V→Below w.heap.size V V'→I Ls V') (hF:∀ V l o r,Fi V→w.heap.size≤l→V.heap[l]? = some (.loop r)→Fi (V.putObj l o)) (h0:I all w)
  (hround:∀ (lp:Nat) (S:List Pl) (Tl:List (List Pl)) (sa:Option Addr) (sc:Nat) (V:World),assign.wpIn (Fence.wide.inRound lp) 0 Tryz.prog (Exit.then (fun a' V'=>V'=V∧∀ U,I (S::Tl) U→PlIn U sa S→(∀ b o,sa=some ⟨b,o,none⟩→0 < S.length→w.heap.size≤b)→w.heap.size≤U.heap.size→body.wpIn (Fence.wide.inRound lp) 0 Tryz.prog (sePost w.heap.size I Fi Tl U) a' U) (fun _ _ _=>False)) { tmps:=a.tmps.setIfInBounds p (.slice sa S.length sc),defers:=[] } V)
  (hdone:∀ W,I [] W→w.heap.size < W.heap.size→W.heap[w.heap.size]? = some (.deferred (some []))→Q .normal { a with defers:={ target:=.collected w.heap.size,args:=#[] }::a.defers } W)
  (hstop:∀ W,Fi W→w.heap.size < W.heap.size→W.heap[w.heap.size]? = some (.deferred (some []))→Code.ret.wpIn Fence.wide 0 Tryz.prog Q { a with defers:={ target:=.collected w.heap.size,args:=#[] }::a.defers } W) :
  (Code.rangeFunc g #[p] assign body).wpIn Fence.wide 0 Tryz.prog Q a w:=by
 refine wpIn_rangeFunc ?_
 intro fn hfn
 obtain ⟨r,hr⟩:∃ r:LoopState→Option Code→Loop,r=fun st pe=>{ state:=st,pending:=pe,fn:=fn,tmps:=a.tmps,params:=#[p],assign:=assign,body:=body,defers:=w.heap.size }:=⟨_,rfl⟩
 obtain ⟨W1,hW1⟩:∃ W1,(w.alloc (.deferred (some []))).alloc (.loop (r .ready none))=W1:=⟨_,rfl⟩
 have hl1:W1.heap[w.heap.size+1]? = some (.loop (r .ready none)):=by
  have:=heap_alloc_new (w.alloc (.deferred (some []))) (.loop (r .ready none))
  rw [World.size_alloc] at this
  rw [← hW1]; exact this
 have hk1:W1.heap[w.heap.size]? = some (.deferred (some [])):=by
  rw [← hW1]; exact (Below.heap_alloc _ _ _ (by simp)).trans (heap_alloc_new w _)
 have hb1:Below w.heap.size w W1:=by rw [← hW1]; exact ((Below.refl _ w).alloc (Nat.le_refl _) _).alloc (by simp) _
 refine ⟨w.heap.size+1,[{ target:=.collected w.heap.size,args:=#[] }],W1,{ target:=.fn (.func gf) lb,args:=#[.func (.yield (w.heap.size+1)) #[] #[]] },W1,gf,#[.func (.yield (w.heap.size+1)) #[] #[]]++lb,W1,?_,?_,fun _ _=>trivial,?_,fun h=>(by cases h),?_⟩
 ·rw [← hW1,hr]; exact run_enterLoop_outer _ _ _ _ _
 ·simp only [resolve,hg]
  simp [go_sem]
 ·simp [invoke,go_sem,eg]
 refine callsIn_wide.2 ((hseq (w.heap.size+1) (fun Ls V=>I Ls V∧V.heap[w.heap.size+1]? = some (.loop (r .ready none))∧V.heap[w.heap.size]? = some (.deferred (some [])))
  (fun V=>Fi V∧V.heap[w.heap.size+1]? = some (.loop (r .done (some .ret)))∧V.heap[w.heap.size]? = some (.deferred (some []))) W1 hb1 (fun Ls V V' h hb=>?_) ?_ ⟨hI _ _ _ h0 hb1,hl1,hk1⟩).mono ?_)
 ·have hlt:=(Array.getElem?_eq_some_iff.1 h.2.1).1
  exact ⟨hI _ _ _ h.1 (hb.mono (by omega)),(hb.block _ hlt).trans h.2.1,(hb.block _ (by omega)).trans h.2.2⟩
 ·rintro S Tl sa sc V ⟨hi,hl,hk⟩ hpl hfar
  have hlt:=(Array.getElem?_eq_some_iff.1 hl).1
  have hy:=run_yield (P:=Tryz.prog) (args:=#[.slice sa S.length sc]) hl (by rw [hr]; rfl)
  have h1:=hround (w.heap.size+1) S Tl sa sc V
  have hb2:Below w.heap.size V (V.putObj (w.heap.size+1) (.loop { r .ready none with state:=.busy })):=below_put _ _ (by omega)
  have hpl2:PlIn (V.putObj (w.heap.size+1) (.loop { r .ready none with state:=.busy })) sa S:=fun k hk'=>by
   obtain ⟨b,o,e,c1,c2⟩:=hpl k hk'
   have hne:b≠w.heap.size+1:=fun e2=>by
    rw [e2] at c1
    unfold World.cell? at c1
    rw [hl] at c1
    cases c1
   exact ⟨b,o,e,(World.cell?_of_block (World.putObj_heap_other hne)).trans c1,(World.cell?_of_block (World.putObj_heap_other hne)).trans c2⟩
  have hl2:(V.putObj (w.heap.size+1) (.loop { r .ready none with state:=.busy })).heap[w.heap.size+1]? = some (.loop { r .ready none with state:=.busy }):=World.putObj_heap_same hlt
  have hk2:(V.putObj (w.heap.size+1) (.loop { r .ready none with state:=.busy })).heap[w.heap.size]? = some (.deferred (some [])):=(World.putObj_heap_other (by omega)).trans hk
  have e5:((r .ready none).params.zip #[Value.slice sa S.length sc]).foldl (fun tmps (t,a)=>tmps.setIfInBounds t a) (r .ready none).tmps=a.tmps.setIfInBounds p (.slice sa S.length sc):=by
   rw [hr]
   simp
  rw [e5] at hy
  refine ⟨fn,_,assign,body,by rw [hy,hr],roundIn_of_wpIn hfn ?_⟩
  refine wpIn_mono h1 ?_
  rintro e a' V' he
  cases e with
  | normal =>
   obtain ⟨rfl,h2⟩:=he
   have h3:=h2 _ (hI _ _ _ hi hb2) hpl2 hfar (by rw [World.putObj_size]; omega)
   refine ⟨_,run_beginRound hl (by rw [hr]),?_⟩
   refine wpIn_mono h3 ?_
   rintro e a3 V3 he
   cases e with
   | normal =>
    obtain ⟨hb3,hi3⟩:=he
    have hl3:=(hb3.block _ (by rw [World.putObj_size]; exact hlt)).trans hl2
    have hk3:=(hb3.block _ (by rw [World.putObj_size]; omega)).trans hk2
    have hend:=run_endRound (P:=Tryz.prog) none hl3
    have hlt3:=(Array.getElem?_eq_some_iff.1 hl3).1
    have e4:(Loop.mk .ready none fn a.tmps #[p] assign body w.heap.size)=r .ready none:=by rw [hr]
    refine ⟨_,_,hend,.inl ⟨rfl,⟨hI _ _ _ hi3 (below_put _ _ (by omega)),?_,(World.putObj_heap_other (by omega)).trans hk3⟩,?_⟩⟩
    ·rw [World.putObj_heap_same hlt3,hr]
     rfl
    ·have hs3:=hb3.size
     rw [World.putObj_size] at hs3
     refine ⟨hb3.os,hb3.tape,hb3.output,by rw [World.putObj_size]; exact hs3,fun k hk'=>?_⟩
     by_cases e:k=w.heap.size+1
     ·subst e
      rw [World.putObj_heap_same hlt3,hl,hr]
      rfl
     ·rw [World.putObj_heap_other e,hb3.block k (by rw [World.putObj_size]; exact hk'),World.putObj_heap_other e]
   | ret =>
    obtain ⟨⟨hs3,hb3⟩,hf3⟩:=he
    rw [World.putObj_size] at hs3
    have hl3:=(hb3 (w.heap.size+1) (by omega) (by rw [World.putObj_size]; exact hlt)).trans hl2
    have hk3:=(hb3 w.heap.size (Nat.le_refl _) (by rw [World.putObj_size]; omega)).trans hk2
    have hlt3:=(Array.getElem?_eq_some_iff.1 hl3).1
    refine ⟨_,_,run_endRound (P:=Tryz.prog) (some .ret) hl3,.inr ⟨rfl,hF _ _ _ _ hf3 (by omega) hl3,?_,(World.putObj_heap_other (by omega)).trans hk3⟩⟩
    rw [World.putObj_heap_same hlt3,hr]
    rfl
   | exit id=>exact he.elim
   | goto t=>exact he.elim
   | panic c=>exact he.elim
   | outgrown=>exact he.elim
  | exit id=>exact he.elim
  | goto t=>exact he.elim
  | ret=>exact he.elim
  | panic c=>exact he.elim
  | outgrown=>exact he.elim
 ·rintro e W2 ⟨⟨v,rfl⟩,⟨hi,hl,hk⟩ | ⟨hf,hl,hk⟩⟩
  ·have hlt:=(Array.getElem?_eq_some_iff.1 hl).1
   have hend:=run_endLoop (P:=Tryz.prog) hl (by rw [hr]; simp)
   refine ⟨none,_,by rw [hend,hr],?_⟩
   exact hdone _ (hI _ _ _ hi (below_put _ _ (by omega))) (by rw [World.putObj_size]; omega) ((World.putObj_heap_other (by omega)).trans hk)
  ·have hlt:=(Array.getElem?_eq_some_iff.1 hl).1
   have hend:=run_endLoop (P:=Tryz.prog) hl (by rw [hr]; simp)
   refine ⟨some .ret,_,by rw [hend,hr],?_⟩
   exact hstop _ (hF _ _ _ _ hf (by omega) hl) (by rw [World.putObj_size]; omega) ((World.putObj_heap_other (by omega)).trans hk)
end
end Go.Proofs.YtelckcpjmekgcacGreatDoor
