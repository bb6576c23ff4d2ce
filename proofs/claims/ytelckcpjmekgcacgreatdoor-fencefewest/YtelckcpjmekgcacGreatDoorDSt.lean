import Derived.Test.YtelckcpjmekgcacGreatDoorOrder
namespace Go.Proofs.YtelckcpjmekgcacGreatDoor
set_option maxRecDepth 100000
section
open Go.RowKit
inductive Rl where
 | box
 | thr
 | words
 | own
 | prints
 | regs (t:Nat)
 | wait (t:Nat)
deriving DecidableEq
def rTy:Rl→TypeId
 | .box=>128
 | .thr=>167
 | .wait _=>175
 | _=>3
def rSz:Rl→Nat
 | .box=>10
 | .thr=>3
 | .wait _=>3
 | _=>1
def rN (s:Sx):Rl→Nat
 | .box=>1
 | .thr=>s.ths.length
 | .words=>s.words.length
 | .own=>s.own.length
 | .prints=>s.prints.length
 | .regs t=>(thOf s t).regs.length
 | .wait t=>(thOf s t).wait.length
structure Pg where
 ca:Option Addr
 n:Nat
 cc:Nat
 wa:Option Addr
 m:Nat
 wc:Nat
 lk:Int
 rg:Int
 mode:Int
def waitC (x:Wt) (j:Nat):Value:=if j=0 then .bool x.lk else if j=1 then .int .i64 x.wh else .int .i64 x.what
def waitV (l:List Wt):List Value:=rows3 l.length fun i j=>waitC (l.getD i default) j
def thrC (v:Rl→Value) (s:Sx) (t j:Nat):Value:=if j=0 then .int .i64 (thOf s t).pc else if j=1 then v (.regs t) else v (.wait t)
def rX (P:Pg) (v:Rl→Value) (s:Sx):Rl→List Value
 | .box=>[.slice P.ca P.n P.cc,.slice P.wa P.m P.wc,.int .i64 P.lk,.int .i64 P.rg,.int .i64 P.mode,v .thr,v .words,v .own,v .prints,.bool s.fell]
 | .thr=>rows3 s.ths.length (thrC v s)
 | .words=>intsV s.words
 | .own=>intsV s.own
 | .prints=>intsV s.prints
 | .regs t=>intsV (thOf s t).regs
 | .wait t=>waitV (thOf s t).wait
structure DSt (w:World) (B:Nat) (P:Pg) (sb:Nat) (v:Rl→Value) (s:Sx):Prop where
 fam:Fam w B rTy rSz v (rN s) (rX P v s)
 box:v .box=boxV sb
theorem thOf_set {s:Sx} {t:Nat} (ht:t < s.ths.length) (x:Th) (u:Nat):thOf (setTh s t x) u=if u=t then x else thOf s u:=by
 unfold thOf setTh
 simp only [List.getD,List.getElem?_set]
 by_cases h:u=t
 ·subst h; simp [ht]
 ·rw [if_neg (fun e=>h e.symm),if_neg h]
section
variable {w w1:World} {B:Nat} {P:Pg} {sb:Nat} {v:Rl→Value} {s:Sx}
theorem DSt.below (h:DSt w B P sb v s) (hb:Below w.heap.size w w1):DSt w1 B P sb v s:=⟨h.fam.below hb,h.box⟩
theorem DSt.bblk (h:DSt w B P sb v s):(v .box).ownBlock=some sb:=by rw [h.box]; rfl
theorem DSt.c0 (h:DSt w B P sb v s):w.cell? ⟨sb,0,none⟩=some (.slice P.ca P.n P.cc):=h.fam.cell h.bblk rfl
theorem DSt.c4 (h:DSt w B P sb v s):w.cell? ⟨sb,4,none⟩=some (.int .i64 P.mode):=h.fam.cell h.bblk rfl
theorem DSt.c5 (h:DSt w B P sb v s):w.cell? ⟨sb,5,none⟩=some (v .thr):=h.fam.cell h.bblk rfl
theorem DSt.c6 (h:DSt w B P sb v s):w.cell? ⟨sb,6,none⟩=some (v .words):=h.fam.cell h.bblk rfl
theorem DSt.c7 (h:DSt w B P sb v s):w.cell? ⟨sb,7,none⟩=some (v .own):=h.fam.cell h.bblk rfl
theorem DSt.c8 (h:DSt w B P sb v s):w.cell? ⟨sb,8,none⟩=some (v .prints):=h.fam.cell h.bblk rfl
theorem DSt.c9 (h:DSt w B P sb v s):w.cell? ⟨sb,9,none⟩=some (.bool s.fell):=h.fam.cell h.bblk rfl
theorem DSt.thrB (h:DSt w B P sb v s) (hn:0 < s.ths.length):∃ tb tc,v .thr=.slice (some ⟨tb,0,none⟩) s.ths.length tc∧(v .thr).ownBlock=some tb∧tb < w.heap.size:=by
 obtain ⟨g,c,h1,h2,_,h4⟩:=fam_block (h.fam.own .thr) (by exact hn)
 exact ⟨g,c,h1,h2,h4⟩
theorem DSt.wordsV (h:DSt w B P sb v s):∃ a c,v .words=.slice a s.words.length c:=fam_form (h.fam.own .words)
theorem DSt.ownV (h:DSt w B P sb v s):∃ a c,v .own=.slice a s.own.length c:=fam_form (h.fam.own .own)
theorem DSt.printsV (h:DSt w B P sb v s):∃ a c,v .prints=.slice a s.prints.length c:=fam_form (h.fam.own .prints)
theorem DSt.waitV (h:DSt w B P sb v s) (t:Nat):∃ a c,v (.wait t)=.slice a (thOf s t).wait.length c:=fam_form (h.fam.own (.wait t))
theorem DSt.regsV (h:DSt w B P sb v s) (t:Nat):∃ a c,v (.regs t)=.slice a (thOf s t).regs.length c:=fam_form (h.fam.own (.regs t))
theorem DSt.regsB (h:DSt w B P sb v s) {t:Nat} (hn:0 < (thOf s t).regs.length):∃ rb rc,v (.regs t)=.slice (some ⟨rb,0,none⟩) (thOf s t).regs.length rc∧(v (.regs t)).ownBlock=some rb∧rb < w.heap.size:=by
 obtain ⟨g,c,h1,h2,_,h4⟩:=fam_block (h.fam.own (.regs t)) (by exact hn)
 exact ⟨g,c,h1,h2,h4⟩
theorem DSt.wordsB (h:DSt w B P sb v s) (hn:0 < s.words.length):∃ rb rc,v .words=.slice (some ⟨rb,0,none⟩) s.words.length rc∧(v .words).ownBlock=some rb∧rb < w.heap.size:=by
 obtain ⟨g,c,h1,h2,_,h4⟩:=fam_block (h.fam.own .words) (by exact hn)
 exact ⟨g,c,h1,h2,h4⟩
theorem DSt.ownB (h:DSt w B P sb v s) (hn:0 < s.own.length):∃ rb rc,v .own=.slice (some ⟨rb,0,none⟩) s.own.length rc∧(v .own).ownBlock=some rb∧rb < w.heap.size:=by
 obtain ⟨g,c,h1,h2,_,h4⟩:=fam_block (h.fam.own .own) (by exact hn)
 exact ⟨g,c,h1,h2,h4⟩
theorem DSt.waitB (h:DSt w B P sb v s) {t:Nat} (hn:0 < (thOf s t).wait.length):∃ rb rc,v (.wait t)=.slice (some ⟨rb,0,none⟩) (thOf s t).wait.length rc∧(v (.wait t)).ownBlock=some rb∧rb < w.heap.size:=by
 obtain ⟨g,c,h1,h2,_,h4⟩:=fam_block (h.fam.own (.wait t)) (by exact hn)
 exact ⟨g,c,h1,h2,h4⟩
theorem DSt.pc (h:DSt w B P sb v s) {tb t:Nat} (e:(v .thr).ownBlock=some tb) (ht:t < s.ths.length):w.cell? ⟨tb,t*3,none⟩=some (.int .i64 (thOf s t).pc):=h.fam.cell e (rows3_get (j:=0) ht (by omega))
theorem DSt.regs (h:DSt w B P sb v s) {tb t:Nat} (e:(v .thr).ownBlock=some tb) (ht:t < s.ths.length):w.cell? ⟨tb,t*3+1,none⟩=some (v (.regs t)):=h.fam.cell e (rows3_get (j:=1) ht (by omega))
theorem DSt.wait (h:DSt w B P sb v s) {tb t:Nat} (e:(v .thr).ownBlock=some tb) (ht:t < s.ths.length):w.cell? ⟨tb,t*3+2,none⟩=some (v (.wait t)):=h.fam.cell e (rows3_get (j:=2) ht (by omega))
theorem DSt.reg (h:DSt w B P sb v s) {rb t r:Nat} (e:(v (.regs t)).ownBlock=some rb) (hr:r < (thOf s t).regs.length):w.cell? ⟨rb,r,none⟩=some (.int .i64 (getR s t r)):=by
 refine (h.fam.cell e (intsV_at hr)).trans ?_
 simp [getR]
theorem DSt.word (h:DSt w B P sb v s) {rb r:Nat} (e:(v .words).ownBlock=some rb) (hr:r < s.words.length):w.cell? ⟨rb,r,none⟩=some (.int .i64 (s.words.getD r 0)):=h.fam.cell e (intsV_at hr)
theorem DSt.owner (h:DSt w B P sb v s) {rb r:Nat} (e:(v .own).ownBlock=some rb) (hr:r < s.own.length):w.cell? ⟨rb,r,none⟩=some (.int .i64 (s.own.getD r 0)):=h.fam.cell e (intsV_at hr)
theorem DSt.sin (h:DSt w B P sb v s) {tb tc:Nat} (e:v .thr=.slice (some ⟨tb,0,none⟩) s.ths.length tc):SIn w sb P.ca P.n P.cc P.mode tb tc (fun t=>v (.regs t)) (fun t=>v (.wait t)) (v .words) (v .own) (v .prints) s :=
 ⟨h.c0,h.c4,by rw [← e]; exact h.c5,h.c6,h.c7,h.c8,h.c9,fun _ ht=>h.pc (by rw [e]; rfl) ht,fun _ ht=>h.regs (by rw [e]; rfl) ht,fun _ ht=>h.wait (by rw [e]; rfl) ht⟩
theorem ths_set (s:Sx) (t:Nat) (x:Th):(setTh s t x).ths.length=s.ths.length:=by simp [setTh]
theorem rN_setTh {t:Nat} (ht:t < s.ths.length) {x:Th} (hr:x.regs.length=(thOf s t).regs.length) (hw:x.wait.length=(thOf s t).wait.length):∀ q,rN (setTh s t x) q=rN s q
 | .box=>rfl
 | .thr=>ths_set _ _ _
 | .words=>rfl
 | .own=>rfl
 | .prints=>rfl
 | .regs u=>by
  show (thOf (setTh s t x) u).regs.length=(thOf s u).regs.length
  rw [thOf_set ht]
  split
  ·rename_i h; rw [h]; exact hr
  ·rfl
 | .wait u=>by
  show (thOf (setTh s t x) u).wait.length=(thOf s u).wait.length
  rw [thOf_set ht]
  split
  ·rename_i h; rw [h]; exact hw
  ·rfl
theorem rX_setTh {t:Nat} (ht:t < s.ths.length) {x:Th}:(∀ q,q≠.thr→(q=.regs t→x.regs=(thOf s t).regs)→(q=.wait t→x.wait=(thOf s t).wait)→rX P v (setTh s t x) q=rX P v s q)
 | .box,_,_,_=>rfl
 | .thr,h,_,_=>absurd rfl h
 | .words,_,_,_=>rfl
 | .own,_,_,_=>rfl
 | .prints,_,_,_=>rfl
 | .regs u,_,h,_=>by
  show intsV (thOf (setTh s t x) u).regs=intsV (thOf s u).regs
  rw [thOf_set ht]
  split
  ·rename_i e; subst e; rw [h rfl]
  ·rfl
 | .wait u,_,_,h=>by
  show Go.Proofs.YtelckcpjmekgcacGreatDoor.waitV (thOf (setTh s t x) u).wait=Go.Proofs.YtelckcpjmekgcacGreatDoor.waitV (thOf s u).wait
  rw [thOf_set ht]
  split
  ·rename_i e; subst e; rw [h rfl]
  ·rfl
theorem rX_thr {t:Nat} (ht:t < s.ths.length) {x:Th} (hp:x.pc=(thOf s t).pc):rX P v (setTh s t x) .thr=rX P v s .thr:=by
 show rows3 (setTh s t x).ths.length (thrC v (setTh s t x))=rows3 s.ths.length (thrC v s)
 rw [ths_set]
 refine rows3_congr fun a b _=>?_
 unfold thrC
 rw [thOf_set ht]
 by_cases h1:a=t
 ·subst h1; rw [if_pos rfl,hp]
 ·rw [if_neg h1]
theorem DSt.setPc (h:DSt w B P sb v s) {tb t:Nat} (e:(v .thr).ownBlock=some tb) (ht:t < s.ths.length) (k:Nat):DSt (w.setCell ⟨tb,t*3,none⟩ (.int .i64 k)) B P sb v (setTh s t { thOf s t with pc:=k }):=by
 refine ⟨h.fam.put (r:=.thr) e (t*3) _ (rN_setTh ht rfl rfl) ?_ (fun q hq=>rX_setTh ht q hq (fun _=>rfl) (fun _=>rfl)),h.box⟩
 show rows3 (setTh s t _).ths.length (thrC v (setTh s t _))=(rows3 s.ths.length (thrC v s)).set (t*3+0) _
 rw [ths_set]
 refine rows3_set (by omega) ?_ ?_
 ·simp [thrC,thOf_set ht]
 ·intro a b _ hab
  simp only [thrC,thOf_set ht]
  by_cases h1:a=t
  ·subst h1
   have:b≠0:=fun e=>hab ⟨rfl,e⟩
   simp [this]
  ·simp [h1]
theorem DSt.setReg (h:DSt w B P sb v s) {rb t:Nat} (e:(v (.regs t)).ownBlock=some rb) (ht:t < s.ths.length) (r:Nat) (x:Int):DSt (w.setCell ⟨rb,r,none⟩ (.int .i64 x)) B P sb v (setR s t r x):=by
 refine ⟨h.fam.put (r:=.regs t) e r _ (rN_setTh ht (by simp) rfl) ?_ (fun q hq=>?_),h.box⟩
 ·show intsV (thOf (setR s t r x) t).regs=(intsV (thOf s t).regs).set r _
  rw [setR,thOf_set ht,if_pos rfl,intsV_set]
  simp
 ·by_cases h1:q=.thr
  ·subst h1; exact rX_thr ht rfl
  ·exact rX_setTh ht q h1 (fun e=>absurd e hq) (fun _=>rfl)
theorem DSt.setWord (h:DSt w B P sb v s) {rb:Nat} (e:(v .words).ownBlock=some rb) (r:Nat) (x:Int):DSt (w.setCell ⟨rb,r,none⟩ (.int .i64 x)) B P sb v { s with words:=s.words.set r x }:=by
 refine ⟨h.fam.put (r:=.words) e r _ (fun q=>?_) ?_ (fun q hq=>?_),h.box⟩
 ·cases q <;> first | rfl | simp [rN]
 ·exact intsV_set _ _ _
 ·cases q <;> first | rfl | exact absurd rfl hq
theorem DSt.setOwn (h:DSt w B P sb v s) {rb:Nat} (e:(v .own).ownBlock=some rb) (r:Nat) (x:Int):DSt (w.setCell ⟨rb,r,none⟩ (.int .i64 x)) B P sb v { s with own:=s.own.set r x }:=by
 refine ⟨h.fam.put (r:=.own) e r _ (fun q=>?_) ?_ (fun q hq=>?_),h.box⟩
 ·cases q <;> first | rfl | simp [rN]
 ·exact intsV_set _ _ _
 ·cases q <;> first | rfl | exact absurd rfl hq
theorem DSt.fall (h:DSt w B P sb v s):DSt (w.setCell ⟨sb,9,none⟩ (.bool true)) B P sb v (fallX s):=by
 refine ⟨h.fam.put (r:=.box) h.bblk 9 _ (fun q=>?_) rfl (fun q hq=>?_),h.box⟩
 ·cases q <;> rfl
 ·cases q <;> first | rfl | exact absurd rfl hq
theorem DSt.print (h:DSt w B P sb v s) {g c H:Nat} {a b:Int} (hown:w1.ownsRow B 3 1 (.slice (some ⟨g,0,none⟩) (s.prints.length+2) c) (s.prints.length+2) (intsV s.prints++[.int .i64 a,.int .i64 b])) (hgrow:w.grownBy w1 (v .prints).ownBlock) (hat:(v .prints).ownBlock=some g∨g=H) (hH:w.heap.size≤H) :
  DSt (w1.setCell ⟨sb,8,none⟩ (.slice (some ⟨g,0,none⟩) (s.prints.length+2) c)) B P sb (upd v .prints (.slice (some ⟨g,0,none⟩) (s.prints.length+2) c)) { s with prints:=s.prints++[a,b] }:=by
 obtain ⟨x,hx⟩:∃ x:Value,x=.slice (some ⟨g,0,none⟩) (s.prints.length+2) c:=⟨_,rfl⟩
 have h1:=h.fam.grow (r:=.prints) (n1:=rN { s with prints:=s.prints++[a,b] }) (xs1:=fun q=>if q=.prints then intsV s.prints++[.int .i64 a,.int .i64 b] else rX P v s q) hown hgrow hat hH (by simp [rN]) (fun q hq=>by cases q <;> first | rfl | exact absurd rfl hq) (if_pos rfl) (fun q hq=>if_neg hq)
 rw [← hx] at h1 ⊢
 refine ⟨h1.put (r:=.box) (by rw [upd_ne _ _ (by decide)]; exact h.bblk) 8 _ (fun q=>rfl) ?_ (fun q hq=>?_),by rw [upd_ne _ _ (by decide)]; exact h.box⟩
 ·rw [if_neg (by decide)]
  simp only [rX,upd_self]
  rw [upd_ne _ _ (by decide),upd_ne _ _ (by decide),upd_ne _ _ (by decide)]
  rfl
 ·cases q with
  | box=>exact absurd rfl hq
  | prints=>rw [if_pos rfl]; simp [rX,intsV]
  | thr =>
   rw [if_neg (by decide)]
   refine rows3_congr fun a b _=>?_
   unfold thrC
   rw [upd_ne _ _ (by simp),upd_ne _ _ (by simp)]
   rfl
  | words=>rw [if_neg (by decide)]; rfl
  | own=>rw [if_neg (by decide)]; rfl
  | regs u=>rw [if_neg (by simp)]; rfl
  | wait u=>rw [if_neg (by simp)]; rfl
theorem waitV_snoc (l:List Wt) (x:Wt):Go.Proofs.YtelckcpjmekgcacGreatDoor.waitV (l++[x])=Go.Proofs.YtelckcpjmekgcacGreatDoor.waitV l++[.bool x.lk,.int .i64 x.wh,.int .i64 x.what]:=by
 unfold Go.Proofs.YtelckcpjmekgcacGreatDoor.waitV
 rw [List.length_append,List.length_singleton,rows3_snoc]
 congr 1
 ·refine rows3_congr fun t j ht=>?_
  congr 1
  simp [List.getD,List.getElem?_append_left ht]
 ·simp [waitC,List.getD]
theorem DSt.newWait (h:DSt w B P sb v s) {tb t:Nat} (e:(v .thr).ownBlock=some tb) (ht:t < s.ths.length) {g c H:Nat} {l:List Wt} (hown:w1.ownsRow B 175 3 (.slice (some ⟨g,0,none⟩) l.length c) l.length (Go.Proofs.YtelckcpjmekgcacGreatDoor.waitV l)) (hgrow:w.grownBy w1 (v (.wait t)).ownBlock) (hat:(v (.wait t)).ownBlock=some g∨g=H) (hH:w.heap.size≤H) :
  DSt (w1.setCell ⟨tb,t*3+2,none⟩ (.slice (some ⟨g,0,none⟩) l.length c)) B P sb (upd v (.wait t) (.slice (some ⟨g,0,none⟩) l.length c)) (setTh s t { thOf s t with wait:=l }):=by
 obtain ⟨x,hx⟩:∃ x:Value,x=.slice (some ⟨g,0,none⟩) l.length c:=⟨_,rfl⟩
 have hnn:∀ q,q≠.wait t→rN (setTh s t { thOf s t with wait:=l }) q=rN s q:=fun q hq=>by
  cases q with
  | thr=>exact ths_set _ _ _
  | regs u =>
   show (thOf (setTh s t _) u).regs.length=(thOf s u).regs.length
   rw [thOf_set ht]
   split
   ·rename_i h; rw [h]
   ·rfl
  | wait u =>
   show (thOf (setTh s t _) u).wait.length=(thOf s u).wait.length
   rw [thOf_set ht,if_neg (fun e=>hq (by rw [e]))]
  | box=>rfl
  | words=>rfl
  | own=>rfl
  | prints=>rfl
 have h1:=h.fam.grow (r:=.wait t) (n1:=rN (setTh s t { thOf s t with wait:=l })) (xs1:=fun q=>if q=.wait t then Go.Proofs.YtelckcpjmekgcacGreatDoor.waitV l else rX P v s q) hown hgrow hat hH (by show (thOf (setTh s t _) t).wait.length=_; rw [thOf_set ht,if_pos rfl]) hnn (if_pos rfl) (fun q hq=>if_neg hq)
 rw [← hx] at h1 ⊢
 refine ⟨h1.put (r:=.thr) (by rw [upd_ne _ _ (by simp)]; exact e) (t*3+2) _ (fun q=>rfl) ?_ (fun q hq=>?_),by rw [upd_ne _ _ (by simp)]; exact h.box⟩
 ·rw [if_neg (by simp)]
  show rows3 (setTh s t _).ths.length (thrC _ (setTh s t _))=(rows3 s.ths.length (thrC v s)).set (t*3+2) _
  rw [ths_set]
  refine rows3_set (by omega) ?_ ?_
  ·simp [thrC,upd_self]
  ·intro a b hb3 hab
   simp only [thrC,thOf_set ht]
   rw [upd_ne _ _ (by simp)]
   by_cases h1:a=t
   ·subst h1
    rw [if_pos rfl]
    by_cases hb:b=0
    ·rw [if_pos hb,if_pos hb]
    ·by_cases hb1:b=1
     ·rw [if_neg hb,if_neg hb,if_pos hb1,if_pos hb1]
     ·exact absurd ⟨rfl,by omega⟩ hab
   ·rw [if_neg h1,upd_ne _ _ (by simpa using h1)]
 ·cases q with
  | thr=>exact absurd rfl hq
  | wait u =>
   show Go.Proofs.YtelckcpjmekgcacGreatDoor.waitV (thOf (setTh s t _) u).wait=_
   rw [thOf_set ht]
   by_cases hu:u=t
   ·rw [if_pos hu,if_pos (by rw [hu])]
   ·rw [if_neg hu,if_neg (by simpa using hu)]; rfl
  | box => 
   rw [if_neg (by simp)]
   simp only [rX]
   rw [upd_ne _ _ (by simp),upd_ne _ _ (by simp),upd_ne _ _ (by simp),upd_ne _ _ (by simp)]
   rfl
  | prints=>rw [if_neg (by simp)]; rfl
  | words=>rw [if_neg (by simp)]; rfl
  | own=>rw [if_neg (by simp)]; rfl
  | regs u =>
   rw [if_neg (by simp)]
   show intsV (thOf (setTh s t _) u).regs=intsV (thOf s u).regs
   rw [thOf_set ht]
   split
   ·rename_i h; rw [h]
   ·rfl
end
end
section
open Go.RowKit
structure SOk (n:Nat) (L:Nat→Nat) (m lk rg:Nat) (mode:Int) (s:Sx):Prop where
 ths:s.ths.length=n
 pc:∀ t,t < n→(thOf s t).pc≤L t
 regs:∀ t,t < n→(thOf s t).regs.length=rg
 words:s.words.length=m
 own:s.own.length=lk
 wlen:∀ t,t < n→(thOf s t).wait.length≤3
 wok:∀ t,t < n→∀ x,x∈(thOf s t).wait→(0≤x.wh∧x.wh < (if x.lk then lk else m:Nat))∧(x.lk=true→x.what=0)
 bare:mode=0→∀ t,t < n→(thOf s t).wait=[]
structure COk (n:Nat) (L:Nat→Nat) (X:Nat→Nat→Nat→Int) (m lk rg:Nat):Prop where
 n4:n≤4
 L4:∀ t,t < n→L t≤1000
 m64:m≤64
 lk4:lk≤4
 rg0:1≤rg
 rg2:rg≤200
 ord:∀ t i,t < n→i < L t→ordE rg m lk (L t) (X t i 0) (X t i 1) (X t i 2) (X t i 3)=0
section
variable {rg m lk sz:Nat} {op a b c:Int}
theorem ok_op (h:ordE rg m lk sz op a b c=0):1≤op∧op≤18:=by
 rcases op_cases op with h1 | h1
 ·exfalso
  unfold ordE at h
  rw [kd_out h1] at h
  simp at h
 ·omega
theorem ok_three {rg m lk sz:Int} {x y z:Int} (hk:kd op=some (x,y,z)) (h:ordE rg m lk sz op a b c=0):okN rg m lk sz x a=true∧okN rg m lk sz y b=true∧okN rg m lk sz z c=true:=by
 unfold ordE at h
 rw [hk] at h
 simp only at h
 split at h
 ·rename_i h1; simpa [and_assoc] using h1
 ·omega
theorem okN_reg {rg m lk sz n:Int} (h:okN rg m lk sz 1 n=true):0≤n∧n < rg:=by simpa [okN,lim] using h
theorem okN_word {rg m lk sz n:Int} (h:okN rg m lk sz 2 n=true):0≤n∧n < m:=by simpa [okN,lim] using h
theorem okN_lock {rg m lk sz n:Int} (h:okN rg m lk sz 3 n=true):0≤n∧n < lk:=by simpa [okN,lim] using h
theorem okN_place {rg m lk sz n:Int} (h:okN rg m lk sz 4 n=true):0≤n∧n≤sz:=by
 have:0≤n∧n < sz+1:=by simpa [okN,lim] using h
 omega
theorem ok_rrr (ho:op=3∨op=4∨op=5∨op=6∨op=7) (h:ordE rg m lk sz op a b c=0):(0≤a∧a < rg)∧(0≤b∧b < rg)∧(0≤c∧c < rg):=by
 have hk:kd op=some (1,1,1):=by rcases ho with rfl | rfl | rfl | rfl | rfl <;> rfl
 have:=ok_three hk h
 exact ⟨okN_reg this.1,okN_reg this.2.1,okN_reg this.2.2⟩
theorem ok_const (h:ordE rg m lk sz 1 a b c=0):0≤a∧a < rg:=okN_reg (ok_three (op:=1) rfl h).1
theorem ok_rr (ho:op=2∨op=10∨op=11) (h:ordE rg m lk sz op a b c=0):(0≤a∧a < rg)∧(0≤b∧b < rg):=by
 have hk:kd op=some (1,1,0):=by rcases ho with rfl | rfl | rfl <;> rfl
 have:=ok_three hk h
 exact ⟨okN_reg this.1,okN_reg this.2.1⟩
theorem ok_load (h:ordE rg m lk sz 8 a b c=0):(0≤a∧a < rg)∧(0≤b∧b < m):=by
 have:=ok_three (op:=8) rfl h
 exact ⟨okN_reg this.1,okN_word this.2.1⟩
theorem ok_store (h:ordE rg m lk sz 9 a b c=0):(0≤a∧a < m)∧(0≤b∧b < rg):=by
 have:=ok_three (op:=9) rfl h
 exact ⟨okN_word this.1,okN_reg this.2.1⟩
theorem ok_cas (h:ordE rg m lk sz 13 a b c=0):(0≤a∧a < m)∧(0≤b∧b < rg)∧(0≤c∧c < rg):=by
 have:=ok_three (op:=13) rfl h
 exact ⟨okN_word this.1,okN_reg this.2.1,okN_reg this.2.2⟩
theorem ok_jump (h:ordE rg m lk sz 14 a b c=0):0≤a∧a≤sz:=okN_place (ok_three (op:=14) rfl h).1
theorem ok_zero (h:ordE rg m lk sz 15 a b c=0):(0≤a∧a < rg)∧(0≤b∧b≤sz):=by
 have:=ok_three (op:=15) rfl h
 exact ⟨okN_reg this.1,okN_place this.2.1⟩
theorem ok_print (h:ordE rg m lk sz 16 a b c=0):0≤a∧a < rg:=okN_reg (ok_three (op:=16) rfl h).1
theorem ok_lock (ho:op=17∨op=18) (h:ordE rg m lk sz op a b c=0):0≤a∧a < lk:=by
 have hk:kd op=some (3,0,0):=by rcases ho with rfl | rfl <;> rfl
 exact okN_lock (ok_three hk h).1
end
theorem toN {a:Int} {n:Nat} (h:0≤a∧a < n):∃ k:Nat,a=k∧k < n:=⟨a.toNat,by omega,by omega⟩
theorem toN_le {a:Int} {n:Nat} (h:0≤a∧a≤n):∃ k:Nat,a=k∧k≤n:=⟨a.toNat,by omega,by omega⟩
end
section
open Go.RowKit
section
variable {n:Nat} {L:Nat→Nat} {m lk rg:Nat} {mode:Int} {s:Sx}
theorem SOk.th (h:SOk n L m lk rg mode s) {t:Nat} (ht:t < n) {x:Th} (hpc:x.pc≤L t) (hr:x.regs.length=rg) (hw:x.wait.length≤3) (hok:∀ y,y∈x.wait→(0≤y.wh∧y.wh < (if y.lk then lk else m:Nat))∧(y.lk=true→y.what=0)) (hb:mode=0→x.wait=[]):SOk n L m lk rg mode (setTh s t x):=by
 have htl:t < s.ths.length:=by rw [h.ths]; exact ht
 have e:=thOf_set htl x
 refine ⟨by rw [ths_set]; exact h.ths,fun u hu=>?_,fun u hu=>?_,h.words,h.own,fun u hu=>?_,fun u hu=>?_,fun h0 u hu=>?_⟩
 all_goals rw [e u]
 all_goals split
 all_goals first | (rename_i hu'; subst hu'; assumption) | skip
 ·exact h.pc u hu
 ·exact h.regs u hu
 ·exact h.wlen u hu
 ·exact h.wok u hu
 ·rename_i hu'; exact hb h0
 ·exact h.bare h0 u hu
theorem SOk.setWord (h:SOk n L m lk rg mode s) (i:Nat) (x:Int):SOk n L m lk rg mode { s with words:=s.words.set i x }:=⟨h.ths,h.pc,h.regs,by simpa using h.words,h.own,h.wlen,h.wok,h.bare⟩
theorem SOk.setOwn (h:SOk n L m lk rg mode s) (i:Nat) (x:Int):SOk n L m lk rg mode { s with own:=s.own.set i x }:=⟨h.ths,h.pc,h.regs,h.words,by simpa using h.own,h.wlen,h.wok,h.bare⟩
theorem SOk.print (h:SOk n L m lk rg mode s) (l:List Int):SOk n L m lk rg mode { s with prints:=l }:=⟨h.ths,h.pc,h.regs,h.words,h.own,h.wlen,h.wok,h.bare⟩
theorem SOk.fall (h:SOk n L m lk rg mode s):SOk n L m lk rg mode (fallX s):=⟨h.ths,h.pc,h.regs,h.words,h.own,h.wlen,h.wok,h.bare⟩
theorem SOk.setR (h:SOk n L m lk rg mode s) {t:Nat} (ht:t < n) (r x:Int):SOk n L m lk rg mode (setR s t r x):=h.th ht (h.pc t ht) (by simpa using h.regs t ht) (h.wlen t ht) (h.wok t ht) (fun h0=>h.bare h0 t ht)
theorem SOk.setPc (h:SOk n L m lk rg mode s) {t:Nat} (ht:t < n) {k:Nat} (hk:k≤L t):SOk n L m lk rg mode (setTh s t { thOf s t with pc:=k }):=h.th ht hk (h.regs t ht) (h.wlen t ht) (h.wok t ht) (fun h0=>h.bare h0 t ht)
theorem SOk.done (h:SOk n L m lk rg mode s) (x:Wt):SOk n L m lk rg mode (doneW s x):=by
 unfold doneW
 split
 ·exact h.setOwn _ _
 ·exact h.setWord _ _
theorem SOk.store (h:SOk n L m lk rg mode s) {t:Nat} (ht:t < n) (_hm:0≤mode) (hw:(thOf s t).wait.length < 3) (x:Wt) (hx:(0≤x.wh∧x.wh < (if x.lk then lk else m:Nat))∧(x.lk=true→x.what=0)):SOk n L m lk rg mode (storeW mode s t x):=by
 unfold storeW
 split
 ·refine h.th ht (h.pc t ht) (h.regs t ht) (by simp; omega) (fun y hy=>?_) (fun h0=>by omega)
  simp only [List.mem_append,List.mem_singleton] at hy
  rcases hy with hy | rfl
  ·exact h.wok t ht y hy
  ·exact hx
 ·exact h.done x
theorem SOk.order (h:SOk n L m lk rg mode s) {t:Nat} (ht:t < n) (hm:0≤mode) {op a b c:Int} (hw:op=9∨op=11∨op=18→(thOf s t).wait.length < 3) (hc:ordE rg m lk (L t) op a b c=0):SOk n L m lk rg mode (orderX mode s t op a b c):=by
 have hop:=ok_op hc
 unfold orderX
 by_cases h1:op=1
 ·rw [if_pos h1]; exact h.setR ht _ _
 rw [if_neg h1]
 by_cases h1:op=2
 ·rw [if_pos h1]; exact h.setR ht _ _
 rw [if_neg h1]
 by_cases h1:op=3
 ·rw [if_pos h1]; exact h.setR ht _ _
 rw [if_neg h1]
 by_cases h1:op=4
 ·rw [if_pos h1]; exact h.setR ht _ _
 rw [if_neg h1]
 by_cases h1:op=5
 ·rw [if_pos h1]; exact h.setR ht _ _
 rw [if_neg h1]
 by_cases h1:op=6
 ·rw [if_pos h1]; exact h.setR ht _ _
 rw [if_neg h1]
 by_cases h1:op=7
 ·rw [if_pos h1]; exact h.setR ht _ _
 rw [if_neg h1]
 by_cases h1:op=8
 ·rw [if_pos h1]; exact h.setR ht _ _
 rw [if_neg h1]
 by_cases h1:op=9
 ·rw [if_pos h1]
  subst h1
  have:=(ok_store hc).1
  exact h.store ht hm (hw (Or.inl rfl)) _ ⟨by show 0≤a∧a < ((m:Nat):Int); omega,fun h=>by cases h⟩
 rw [if_neg h1]
 by_cases h1:op=10
 ·rw [if_pos h1]
  split
  ·exact h.fall
  ·exact h.setR ht _ _
 rw [if_neg h1]
 by_cases h1:op=11
 ·rw [if_pos h1]
  split
  ·exact h.fall
  ·rename_i hn
   rw [h.words] at hn
   exact h.store ht hm (hw (Or.inr (Or.inl h1))) _ ⟨by show 0≤getR s t a∧getR s t a < ((m:Nat):Int); omega,fun h=>by cases h⟩
 rw [if_neg h1]
 by_cases h1:op=13
 ·rw [if_pos h1]
  split
  ·exact (h.setWord _ _).setR ht _ _
  ·exact h.setR ht _ _
 rw [if_neg h1]
 by_cases h1:op=14
 ·rw [if_pos h1]
  subst h1
  have:=ok_jump hc
  exact h.setPc ht (by omega)
 rw [if_neg h1]
 by_cases h1:op=15
 ·rw [if_pos h1]
  subst h1
  have:=(ok_zero hc).2
  split
  ·exact h.setPc ht (by omega)
  ·exact h
 rw [if_neg h1]
 by_cases h1:op=16
 ·rw [if_pos h1]; exact h.print _
 rw [if_neg h1]
 by_cases h1:op=17
 ·rw [if_pos h1]; exact h.setOwn _ _
 rw [if_neg h1]
 by_cases h1:op=18
 ·rw [if_pos h1]
  split
  ·exact h.fall
  ·have:=ok_lock (Or.inr h1) hc
   exact h.store ht hm (hw (Or.inr (Or.inr h1))) _ ⟨by show 0≤a∧a < ((lk:Nat):Int); omega,fun _=>rfl⟩
 rw [if_neg h1]
 exact h
theorem prints_store (s:Sx) (t:Nat) (x:Wt):(storeW mode s t x).prints=s.prints:=by
 unfold storeW doneW setTh
 split
 ·rfl
 ·split <;> rfl
theorem prints_order (s:Sx) (t:Nat) (op a b c:Int):(orderX mode s t op a b c).prints.length≤s.prints.length+2:=by
 have key:∀ (p:Prop) [Decidable p] (x y:Sx),x.prints.length≤s.prints.length+2→y.prints.length≤s.prints.length+2→(if p then x else y).prints.length≤s.prints.length+2:=fun p _ x y hx hy=>by
  split
  ·exact hx
  ·exact hy
 unfold orderX
 repeat' (refine key _ _ _ ?_ ?_)
 all_goals first | (show s.prints.length≤_; omega) | (rw [prints_store]; omega) | simp
end
theorem able_lt {L:Nat→Nat} {X:Nat→Nat→Nat→Int} {s:Sx} {t:Nat} (h:ableT L X s t=true):(thOf s t).pc < L t:=by
 rcases Nat.lt_or_ge (thOf s t).pc (L t) with h1 | h1
 ·exact h1
 ·unfold ableT endedT at h
  rw [decide_eq_true h1] at h
  simp at h
theorem able_room {L:Nat→Nat} {X:Nat→Nat→Nat→Int} {s:Sx} {t:Nat} (h:ableT L X s t=true) (ho:opT X s t 0=9∨opT X s t 0=11∨opT X s t 0=18):(thOf s t).wait.length < 3:=by
 have h1:=able_lt h
 unfold ableT endedT at h
 rw [decide_eq_false (by omega)] at h
 simp only [Bool.false_eq_true,if_false] at h
 rw [if_pos ho] at h
 simpa using h
end
section
open Go.RowKit
theorem bad_none {E:Nat→Int}:∀ (f k:Nat),firstBad E f k=none→∀ i,k≤i→i < k+f→E i=0
 | 0,k,_,i,h1,h2=>by omega
 | f+1,k,h,i,h1,h2=>by
  rw [firstBad] at h
  split at h
  ·rename_i h0
   by_cases e:i=k
   ·subst e; exact h0
   ·exact bad_none f (k+1) h i (by omega) (by omega)
  ·cases h
theorem thread_ok {R:Nat→Option (Int × Int)} (hR:∀ t c a,R t=some (c,a)→c≠0):∀ (f k:Nat),(firstThread R f k).1=0→∀ i,k≤i→i < k+f→R i=none
 | 0,k,_,i,h1,h2=>by omega
 | f+1,k,h,i,h1,h2=>by
  rw [firstThread] at h
  split at h
  ·rename_i h0
   by_cases e:i=k
   ·subst e; exact h0
   ·exact thread_ok hR f (k+1) h i (by omega) (by omega)
  ·rename_i c a h0
   exact absurd h (hR k c a h0)
theorem thread_zero {R:Nat→Option (Int × Int)} (hR:∀ t c a,R t=some (c,a)→c≠0):∀ (f k:Nat),(firstThread R f k).1=0→firstThread R f k=(0,0,0)
 | 0,_,_=>rfl
 | f+1,k,h=>by
  rw [firstThread] at h ⊢
  split at h
  ·exact thread_zero hR f (k+1) h
  ·rename_i c a h0
   exact absurd h (hR k c a h0)
theorem bad_ne {E:Nat→Int}:∀ (f k:Nat) (c a:Int),firstBad E f k=some (c,a)→c≠0
 | 0,k,c,a,h=>by simp [firstBad] at h
 | f+1,k,c,a,h=>by
  rw [firstBad] at h
  split at h
  ·exact bad_ne f (k+1) c a h
  ·rename_i h0
   simp only [Option.some.injEq,Prod.mk.injEq] at h
   rw [← h.1]; exact h0
theorem thr_ne {rg wd lk:Int} {L:Nat→Nat} {X:Nat→Nat→Nat→Int}:∀ t c a,thr rg wd lk L X t=some (c,a)→c≠0:=fun t c a e=>by
 unfold thr at e
 split at e
 ·simp at e; omega
 ·exact bad_ne _ _ _ _ e
theorem chk_cok {n m:Nat} {L:Nat→Nat} {X:Nat→Nat→Nat→Int} {lk rg x y z:Int} (h:chk n L X m lk rg=(x,y,z)) (hx:x=0):y=0∧z=0∧0 < n∧∃ lk' rg':Nat,lk=lk'∧rg=rg'∧COk n L X m lk' rg':=by
 subst hx
 unfold chk at h
 split at h
 ·rename_i h1
  simp only [Prod.mk.injEq] at h
  exact absurd h.1 h1
 ·rename_i h1
  have h1:sizesE n m lk rg=0:=by simpa using h1
  unfold sizesE at h1
  split at h1
  ·cases h1
  ·split at h1
   ·cases h1
   ·rename_i h2 h3
    have hz:=thread_zero thr_ne n 0 (by rw [h])
    rw [h] at hz
    simp only [Prod.mk.injEq] at hz
    have hR:∀ t,t < n→thr rg m lk L X t=none:=fun t ht=>thread_ok thr_ne n 0 (by rw [h]) t (Nat.zero_le _) (by omega)
    have hL:∀ t,t < n→L t≤400∧firstBad (fun i=>ordE rg m lk (L t) (X t i 0) (X t i 1) (X t i 2) (X t i 3)) (L t) 0=none:=fun t ht=>by
     have:=hR t ht
     unfold thr at this
     split at this
     ·cases this
     ·exact ⟨by omega,this⟩
    obtain ⟨lk',rfl⟩:=Int.eq_ofNat_of_zero_le (by omega:0≤lk)
    obtain ⟨rg',rfl⟩:=Int.eq_ofNat_of_zero_le (by omega:0≤rg)
    exact ⟨hz.2.1,hz.2.2,by omega,lk',rg',rfl,rfl,by omega,fun t ht=>Nat.le_trans (hL t ht).1 (by decide),by omega,by omega,by omega,by omega,fun t i ht hi=>bad_none (L t) 0 (hL t ht).2 i (Nat.zero_le _) (by omega)⟩
theorem chk_len {n:Nat} {L:Nat→Nat} {X:Nat→Nat→Nat→Int} {m:Nat} {lk rg:Int} (h:chk n L X m lk rg=(0,0,0)):∀ t,t < n→L t≤400:=fun t ht=>by
 unfold chk at h
 split at h
 ·simp_all
 ·have:=thread_ok thr_ne n 0 (by rw [h]) t (Nat.zero_le _) (by omega)
  unfold thr at this
  split at this
  ·cases this
  ·omega
end
end Go.Proofs.YtelckcpjmekgcacGreatDoor
