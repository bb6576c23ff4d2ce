import Derived.Test.YtelckcpjmekgcacGreatDoorRDoW
import Derived.Laws.OwnMore
namespace Go.Proofs.YtelckcpjmekgcacGreatDoor
set_option maxHeartbeats 3200000
set_option maxRecDepth 100000
section
open Go.RowKit
def numW (x:Wt):List Int:=[bitI x.lk,x.wh,x.what]
def numT (h:Th):List Int:=[(h.pc:Int),(h.wait.length:Int)]++h.regs++h.wait.flatMap numW
def numsX (s:Sx):List Int:=s.ths.flatMap numT++s.words++s.own++s.prints
theorem numW_inj {x y:Wt} (h:numW x=numW y):x=y:=by
 cases x with
 | mk a b c =>
  cases y with
  | mk a' b' c' =>
   simp only [numW,List.cons.injEq,and_true] at h
   obtain ⟨h1,rfl,rfl⟩:=h
   cases a <;> cases a' <;> first | rfl | cases h1
theorem flat_inj {f:Wt→List Int} {k:Nat} {Q:Wt→Prop} (hk:∀ x,(f x).length=k) (hf:∀ x y,Q x→Q y→f x=f y→x=y):∀ {l r:List Wt} {u v:List Int},l.length=r.length→(∀ x,x∈l→Q x)→(∀ x,x∈r→Q x)→l.flatMap f++u=r.flatMap f++v→l=r∧u=v
 | [],[],_,_,_,_,_,h=>⟨rfl,h⟩
 | a::l,b::r,u,v,hl,h1,h2,h=>by
  rw [List.flatMap_cons,List.flatMap_cons,List.append_assoc,List.append_assoc] at h
  obtain ⟨e1,e2⟩:=List.append_inj h (by rw [hk,hk])
  obtain ⟨e3,e4⟩:=flat_inj hk hf (by simpa using hl) (fun x hx=>h1 x (by simp [hx])) (fun x hx=>h2 x (by simp [hx])) e2
  rw [hf _ _ (h1 a (by simp)) (h2 b (by simp)) e1,e3]
  exact ⟨rfl,e4⟩
theorem numT_inj {a b:Th} {u v:List Int} (hr:a.regs.length=b.regs.length) (h:numT a++u=numT b++v):a=b∧u=v:=by
 cases a with
 | mk pa ra wa =>
  cases b with
  | mk pb rb wb =>
   simp only [numT,List.append_assoc,List.cons_append,List.nil_append,List.cons.injEq] at h
   obtain ⟨h1,h2,h3⟩:=h
   obtain ⟨e1,e2⟩:=List.append_inj h3 hr
   obtain ⟨e3,e4⟩:=flat_inj (k:=3) (Q:=fun _=>True) (fun _=>rfl) (fun _ _ _ _=>numW_inj) (by omega) (fun _ _=>trivial) (fun _ _=>trivial) e2
   subst e1 e3
   exact ⟨by rw [show pa=pb by omega],e4⟩
theorem nums_ths:∀ {l r:List Th} {u v:List Int} {rg:Nat},l.length=r.length→(∀ x,x∈l→x.regs.length=rg)→(∀ x,x∈r→x.regs.length=rg)→l.flatMap numT++u=r.flatMap numT++v→l=r∧u=v
 | [],[],_,_,_,_,_,_,h=>⟨rfl,h⟩
 | a::l,b::r,u,v,rg,hl,h1,h2,h=>by
  rw [List.flatMap_cons,List.flatMap_cons,List.append_assoc,List.append_assoc] at h
  obtain ⟨e1,e2⟩:=numT_inj (by rw [h1 a (by simp),h2 b (by simp)]) h
  obtain ⟨e3,e4⟩:=nums_ths (rg:=rg) (by simpa using hl) (fun x hx=>h1 x (by simp [hx])) (fun x hx=>h2 x (by simp [hx])) e2
  rw [e1,e3]
  exact ⟨rfl,e4⟩
theorem SOk.mem {n:Nat} {L:Nat→Nat} {m lk rg:Nat} {mode:Int} {s:Sx} (h:SOk n L m lk rg mode s) {x:Th} (hx:x∈s.ths):∃ t,t < n∧thOf s t=x:=by
 obtain ⟨t,ht,e⟩:=List.getElem_of_mem hx
 exact ⟨t,by rw [← h.ths]; exact ht,by unfold thOf; rw [List.getD_eq_getElem?_getD,List.getElem?_eq_getElem ht]; exact e⟩
theorem nums_inj {n:Nat} {L:Nat→Nat} {m lk rg:Nat} {mode:Int} {s r:Sx} (h1:SOk n L m lk rg mode s) (h2:SOk n L m lk rg mode r) (hf:s.fell=r.fell) (h:numsX s=numsX r):s=r:=by
 unfold numsX at h
 simp only [List.append_assoc] at h
 obtain ⟨e1,e2⟩:=nums_ths (rg:=rg) (by rw [h1.ths,h2.ths]) (fun x hx=>by obtain ⟨t,ht,rfl⟩:=h1.mem hx; exact h1.regs t ht) (fun x hx=>by obtain ⟨t,ht,rfl⟩:=h2.mem hx; exact h2.regs t ht) h
 obtain ⟨e3,e4⟩:=List.append_inj e2 (by rw [h1.words,h2.words])
 obtain ⟨e5,e6⟩:=List.append_inj e4 (by rw [h1.own,h2.own])
 cases s; cases r
 simp only at e1 e3 e5 e6 hf
 subst e1 e3 e5 e6 hf
 rfl
def telT (h:Th):List Int:=[(h.pc:Int)]++h.regs
def telW (x:Wt):List Int:=[if x.lk then -1 - x.wh else x.wh,x.what]
def telB (h:Th):List Int:=[(h.wait.length:Int)]++h.wait.flatMap telW
def telM (mode:Int) (s:Sx):List Int:=s.words++s.own++(if 0 < mode then s.ths.flatMap telB else [])
def telX (mode:Int) (s:Sx):List Int:=s.ths.flatMap telT++telM mode s++s.prints
theorem telW_inj {x y:Wt} (hx:0≤x.wh) (hy:0≤y.wh) (h:telW x=telW y):x=y:=by
 cases x with
 | mk a b c =>
  cases y with
  | mk a' b' c' =>
   simp only [telW,List.cons.injEq,and_true] at h
   obtain ⟨h1,rfl⟩:=h
   simp only at hx hy
   cases a <;> cases a' <;> simp only [if_true,Bool.false_eq_true,if_false] at h1
   ·rw [h1]
   ·omega
   ·omega
   ·rw [show b=b' by omega]
theorem tel_ths:∀ {l r:List Th} {u v:List Int} {rg:Nat},l.length=r.length→(∀ x,x∈l→x.regs.length=rg)→(∀ x,x∈r→x.regs.length=rg)→l.flatMap telT++u=r.flatMap telT++v→(l.map fun x=>(x.pc,x.regs))=(r.map fun x=>(x.pc,x.regs))∧u=v
 | [],[],_,_,_,_,_,_,h=>⟨rfl,h⟩
 | a::l,b::r,u,v,rg,hl,h1,h2,h=>by
  rw [List.flatMap_cons,List.flatMap_cons,List.append_assoc,List.append_assoc] at h
  obtain ⟨e1,e2⟩:=List.append_inj h (by simp [telT,h1 a (by simp),h2 b (by simp)])
  simp only [telT,List.cons_append,List.nil_append,List.cons.injEq] at e1
  obtain ⟨e3,e4⟩:=tel_ths (rg:=rg) (by simpa using hl) (fun x hx=>h1 x (by simp [hx])) (fun x hx=>h2 x (by simp [hx])) e2
  refine ⟨?_,e4⟩
  rw [List.map_cons,List.map_cons,e3,show a.pc=b.pc by omega,e1.2]
theorem tel_buf:∀ {l r:List Th} {u v:List Int},l.length=r.length→(∀ x,x∈l→∀ y,y∈x.wait→0≤y.wh)→(∀ x,x∈r→∀ y,y∈x.wait→0≤y.wh)→l.flatMap telB++u=r.flatMap telB++v→(l.map fun x=>x.wait)=(r.map fun x=>x.wait)∧u=v
 | [],[],_,_,_,_,_,h=>⟨rfl,h⟩
 | a::l,b::r,u,v,hl,h1,h2,h=>by
  rw [List.flatMap_cons,List.flatMap_cons,List.append_assoc,List.append_assoc] at h
  simp only [telB,List.cons_append,List.nil_append,List.cons.injEq] at h
  obtain ⟨e0,h⟩:=h
  obtain ⟨e1,e2⟩:=flat_inj (k:=2) (Q:=fun y=>0≤y.wh) (fun _=>rfl) (fun _ _ h1 h2=>telW_inj h1 h2) (by omega) (h1 a (by simp)) (h2 b (by simp)) h
  obtain ⟨e3,e4⟩:=tel_buf (by simpa using hl) (fun x hx=>h1 x (by simp [hx])) (fun x hx=>h2 x (by simp [hx])) e2
  exact ⟨by rw [List.map_cons,List.map_cons,e1,e3],e4⟩
theorem ths_eq:∀ {l r:List Th},(l.map fun x=>(x.pc,x.regs))=(r.map fun x=>(x.pc,x.regs))→(l.map fun x=>x.wait)=(r.map fun x=>x.wait)→l=r
 | [],[],_,_=>rfl
 | [],_::_,h,_=>by cases h
 | _::_,[],h,_=>by cases h
 | a::l,b::r,h1,h2=>by
  simp only [List.map_cons,List.cons.injEq,Prod.mk.injEq] at h1 h2
  rw [ths_eq h1.2 h2.2]
  cases a; cases b
  simp only at h1 h2
  rw [h1.1.1,h1.1.2,h2.1]
theorem tel_inj {n:Nat} {L:Nat→Nat} {m lk rg:Nat} {mode:Int} {s r:Sx} (h1:SOk n L m lk rg mode s) (h2:SOk n L m lk rg mode r) (hm:0≤mode) (hf:s.fell=r.fell) (h:telX mode s=telX mode r):s=r:=by
 unfold telX telM at h
 simp only [List.append_assoc] at h
 obtain ⟨e1,e2⟩:=tel_ths (rg:=rg) (by rw [h1.ths,h2.ths]) (fun x hx=>by obtain ⟨t,ht,rfl⟩:=h1.mem hx; exact h1.regs t ht) (fun x hx=>by obtain ⟨t,ht,rfl⟩:=h2.mem hx; exact h2.regs t ht) h
 obtain ⟨e3,e4⟩:=List.append_inj e2 (by rw [h1.words,h2.words])
 obtain ⟨e5,e6⟩:=List.append_inj e4 (by rw [h1.own,h2.own])
 have ew:(s.ths.map fun x=>x.wait)=(r.ths.map fun x=>x.wait)∧s.prints=r.prints:=by
  by_cases h0:0 < mode
  ·rw [if_pos h0,if_pos h0] at e6
   exact tel_buf (by rw [h1.ths,h2.ths]) (fun x hx y hy=>by obtain ⟨t,ht,rfl⟩:=h1.mem hx; exact (h1.wok t ht y hy).1.1) (fun x hx y hy=>by obtain ⟨t,ht,rfl⟩:=h2.mem hx; exact (h2.wok t ht y hy).1.1) e6
  ·rw [if_neg h0,if_neg h0] at e6
   have hz:mode=0:=by omega
   have e:∀ (q:Sx),SOk n L m lk rg mode q→(q.ths.map fun x=>x.wait)=List.replicate n []:=fun q hq=>by
    rw [List.eq_replicate_iff]
    refine ⟨by rw [List.length_map,hq.ths],fun b hb=>?_⟩
    obtain ⟨x,hx,rfl⟩:=List.mem_map.mp hb
    obtain ⟨t,ht,rfl⟩:=hq.mem hx
    exact hq.bare hz t ht
   exact ⟨by rw [e s h1,e r h2],by simpa using e6⟩
 have et:=ths_eq e1 ew.1
 have ep:=ew.2
 cases s; cases r
 simp only at et e3 e5 ep hf
 subst et e3 e5 ep hf
 rfl
section
variable (L:Nat→Nat) (X:Nat→Nat→Nat→Int) (mode:Int)
def nxX (s:Sx):List Sx:=(movesX L X mode s).filterMap fun mv=>if (doX X mode s mv.toNat).fell then none else some (doX X mode s mv.toNat)
def outsX (s:Sx):List Oc :=
 (if movesX L X mode s=[] then [⟨if endedX L s then 0 else 2,s.words,s.prints⟩] else []) ++
  (movesX L X mode s).filterMap fun mv=>if (doX X mode s mv.toNat).fell then some ⟨1,[],(doX X mode s mv.toNat).prints⟩ else none
end
end
section
open Go.RowKit
section
variable {n:Nat} {L:Nat→Nat} {X:Nat→Nat→Nat→Int} {m lk rg:Nat} {mode:Int}
theorem moves_ended {s:Sx} (h:endedX L s=true):movesX L X mode s=[]:=by
 unfold movesX
 rw [List.flatMap_eq_nil_iff]
 intro t ht
 unfold endedX at h
 rw [List.all_eq_true] at h
 have h1:=h t ht
 rw [Bool.and_eq_true] at h1
 have hw:(thOf s t).wait=[]:=List.isEmpty_iff.mp h1.2
 unfold movesT
 rw [hw]
 have ha:ableT L X s t=false:=by unfold ableT; rw [if_pos h1.1]
 rw [ha]
 rfl
theorem move_ok {s:Sx} (h:SOk n L m lk rg mode s) (hc:COk n L X m lk rg) (hm:0≤mode) {mv:Int} (hmv:mv∈movesX L X mode s):SOk n L m lk rg mode (doX X mode s mv.toNat):=by
 rcases movesX_mem hmv with ⟨t,ht,rfl,ha⟩ | ⟨t,k,ht,hk,rfl,_⟩
 ·rw [show (8*(t:Int)).toNat=8*t by omega]
  exact h.step hc hm (by rw [← h.ths]; exact ht) ha
 ·rw [show (8*(t:Int)+(k:Int)+1).toNat=8*t+k+1 by omega]
  exact h.wait (by rw [← h.ths]; exact ht) hk
theorem mem_nx {s t:Sx}:t∈nxX L X mode s↔∃ mv,mv∈movesX L X mode s∧doX X mode s mv.toNat=t∧t.fell=false:=by
 unfold nxX
 rw [List.mem_filterMap]
 constructor
 ·rintro ⟨mv,h1,h2⟩
  cases hf:(doX X mode s mv.toNat).fell with
  | true=>rw [hf] at h2; cases h2
  | false =>
   rw [hf] at h2
   have e:doX X mode s mv.toNat=t:=Option.some.inj h2
   exact ⟨mv,h1,e,by rw [← e]; exact hf⟩
 ·rintro ⟨mv,h1,h2,h3⟩
  exact ⟨mv,h1,by rw [h2,h3]; rfl⟩
end
section
variable {n:Nat} {L:Nat→Nat} {X:Nat→Nat→Nat→Int} {m lk rg:Nat}
end
end
section
open Go.RowKit
def wtO (op:Int):Bool:=decide (op=9) || decide (op=11) || decide (op=18)
end
section
open Go.RowKit
theorem letsWait_any (w:World) (op:Int):Calls Tryz.prog 65 #[.int .i64 op] w fun e w'=>e=.returned (.bool (wtO op))∧w'=w:=by
 unfold wtO
 by_cases h9:op=9
 ·subst h9
  go_enter Tryz.func65,Tryz.ntmps65
  go_wp2
  go_ret
  exact ⟨rfl,rfl⟩
 ·have h9':(op == 9)=false:=by simpa using h9
  by_cases h11:op=11
  ·subst h11
   go_enter Tryz.func65,Tryz.ntmps65
   go_wp2
   go_ret
   exact ⟨rfl,rfl⟩
  ·have h11':(op == 11)=false:=by simpa using h11
   by_cases h18:op=18
   ·subst h18
    go_enter Tryz.func65,Tryz.ntmps65
    go_wp2
    go_ret
    exact ⟨rfl,rfl⟩
   ·have h18':(op == 18)=false:=by simpa using h18
    rw [decide_eq_false h9,decide_eq_false h11,decide_eq_false h18]
    go_enter Tryz.func65,Tryz.ntmps65
    go_wp2
    go_ret
    exact ⟨rfl,rfl⟩
theorem orderAt_any (w:World) (ca:Option Addr) (n cc:Nat) (wa:Option Addr) (m wc:Nat) (lk rg:Int) (A:Nat→Option Addr) (L C:Nat→Nat) (X:Nat→Nat→Nat→Int) (t i:Nat) (hp:PIn w ca n A L C X) (ht:t < n) (hi:i < L t) :
  Calls Tryz.prog 106 #[prgV ca n cc wa m wc lk rg,.agg #[.int .i64 t,.int .i64 i]] w fun e w'=>e=.returned (ints4 (X t i 0) (X t i 1) (X t i 2) (X t i 3))∧Below w.heap.size w w':=by
 have i0:∀ W,(Instr.index 52 (.agg #[.int .i64 (t:Int),.int .i64 (i:Int)]) (.int .i64 0)).run Tryz.prog W=.ok (.int .i64 t) W:=fun _=>by kernel_rfl
 have i1:∀ W,(Instr.index 52 (.agg #[.int .i64 (t:Int),.int .i64 (i:Int)]) (.int .i64 1)).run Tryz.prog W=.ok (.int .i64 i) W:=fun _=>by kernel_rfl
 obtain ⟨cb,co,rfl,hc⟩:=hp.code t ht
 obtain ⟨ab,ao,hA,c0,c1,c2,c3⟩:=hp.ord t i ht hi
 rw [hA] at hc
 have hln:=hp.len t ht
 have hnn:=hp.num
 obtain ⟨x0,h0⟩:∃ x,X t i 0=x:=⟨_,rfl⟩
 obtain ⟨x1,h1⟩:∃ x,X t i 1=x:=⟨_,rfl⟩
 obtain ⟨x2,h2⟩:∃ x,X t i 2=x:=⟨_,rfl⟩
 obtain ⟨x3,h3⟩:∃ x,X t i 3=x:=⟨_,rfl⟩
 obtain ⟨l,hl⟩:∃ x,L t=x:=⟨_,rfl⟩
 rw [h0] at c0; rw [h1] at c1; rw [h2] at c2; rw [h3] at c3
 rw [h0,h1,h2,h3]
 rw [hl] at hc hi hln
 have u0:=fun o1 o2 o3=>cell_up (cell_up (cell_up c0 o1) o2) o3
 have u1:=fun o1 o2 o3=>cell_up (cell_up (cell_up c1 o1) o2) o3
 have u2:=fun o1 o2 o3=>cell_up (cell_up (cell_up c2 o1) o2) o3
 have u3:=fun o1 o2 o3=>cell_up (cell_up (cell_up c3 o1) o2) o3
 have uc:=fun o1 o2 o3=>cell_up (cell_up (cell_up hc o1) o2) o3
 clear hp hA h0 h1 h2 h3 hl c0 c1 c2 c3 hc
 go_enter Tryz.func106,Tryz.ntmps106
 go_wp2
 refine region_tail 10 (by kernel_rfl) (by kernel_rfl) ?_
 simp only [List.take_succ_cons,List.take_zero,List.drop_succ_cons,List.drop_zero]
 repeat still_step
 refine wpStill_nil ?_
 go_wp2
 exact bodyPost_ret (v:=ints4 x0 x1 x2 x3) (by simp [results,Tryz.results106,go_sem]) rfl ⟨rfl,((((Below.refl _ _).alloc (Nat.le_refl _) _).alloc (by simp) _).alloc (by simp; omega) _).drew⟩
theorem put1_any (w:World) (pb fb fid:Nat) (caps:Array Value) (ca:Option Addr) (n cc:Nat) (wa:Option Addr) (m wc:Nat) (lk rg:Int) (A:Nat→Option Addr) (L C:Nat→Nat) (X:Nat→Nat→Nat→Int) (t i:Nat) (d:Bool) (hp:PIn w ca n A L C X) (ht:t < n) (hi:i < L t) (hb:w.heap[pb]? = some (.cells #[.slice ca n cc,.slice wa m wc,.int .i64 lk,.int .i64 rg] 25)) (hfb:w.cell? ⟨fb,0,none⟩=some (.func (.func fid) #[] caps))
  (hfn:∀ (xs:Array Value) (w:World),(callFunc fid xs).run Tryz.prog w=.ok (.enter fid xs) w) (hd:∀ V,Below w.heap.size w V→Calls Tryz.prog fid (#[.agg #[.int .i64 t,.int .i64 i]]++caps) V fun e w'=>e=.returned (.bool d)∧Below V.heap.size V w') :
  Calls Tryz.prog 105 #[.int .i64 t,.int .i64 i,.pointer (some ⟨fb,0,none⟩),.pointer (some ⟨pb,0,none⟩)] w fun e w'=>∃ sa c,e=.returned (.slice sa (bWith d (ordAt X t i)).length c)∧SrcL w' sa (cellsT (bWith d (ordAt X t i)))∧Below w.heap.size w w':=by
 have hbl:=box_lt hb
 have hfl:=lt_of_cell hfb
 have HO:Hid (∀ V,Below w.heap.size w V→Calls Tryz.prog 106 #[.agg #[.slice ca n cc,.slice wa m wc,.int .i64 lk,.int .i64 rg],.agg #[.int .i64 t,.int .i64 i]] V fun e w'=>e=.returned (ints4 (X t i 0) (X t i 1) (X t i 2) (X t i 3))∧Below V.heap.size V w'):=fun V hV=>orderAt_any V ca n cc wa m wc lk rg A L C X t i (hp.below hV) ht hi
 have HD:=hiD hd
 have b0:=box_cell (i:=0) hb rfl
 have b1:=box_cell (i:=1) hb rfl
 have b2:=box_cell (i:=2) hb rfl
 have b3:=box_cell (i:=3) hb rfl
 have HB1:Hid (∀ o,Below w.heap.size w (w.alloc o)):=fun o=>(Below.refl _ _).alloc (Nat.le_refl _) _
 clear hp hd
 have HST:Hid (∀ V,Below (w.heap.size+1) (w.alloc (.cells #[.int .i64 (t:Int),.int .i64 (i:Int)] 52)) V→Below w.heap.size w V∧V.cell? ⟨w.heap.size,0,none⟩=some (.int .i64 t)∧V.cell? ⟨w.heap.size,1,none⟩=some (.int .i64 i)∧V.cell? ⟨pb,0,none⟩=some (.slice ca n cc)∧V.cell? ⟨pb,1,none⟩=some (.slice wa m wc)∧V.cell? ⟨pb,2,none⟩=some (.int .i64 lk)∧V.cell? ⟨pb,3,none⟩=some (.int .i64 rg)):=fun V hV=>by
  have hB:=(HB1.out (.cells #[.int .i64 (t:Int),.int .i64 (i:Int)] 52)).trans (hV.mono (by simp))
  have hh:=(hV.block w.heap.size (by omega)).trans (heap_alloc_new w (.cells #[.int .i64 (t:Int),.int .i64 (i:Int)] 52))
  have hq:=(hB.block pb hbl).trans hb
  exact ⟨hB,box_cell hh rfl,box_cell hh rfl,box_cell hq rfl,box_cell hq rfl,box_cell hq rfl,box_cell hq rfl⟩
 clear hb
 cases d with
 | true =>
  go_enter Tryz.func105,Tryz.ntmps105
  go_wp2_with fail
  refine Calls.mono (HD.out _ (HB1.out _)) ?_
  rintro e w1 ⟨rfl,hb1⟩
  have hb1':Below (w.heap.size+1) (w.alloc (.cells #[.int .i64 (t:Int),.int .i64 (i:Int)] 52)) w1:=by simpa using hb1
  obtain ⟨hw1,h0,h1,q0,q1,q2,q3⟩:=HST.out w1 hb1'
  have hl1:w.heap.size < w1.heap.size:=lt_of_cell h0
  have H1:Hid (Below (w.heap.size+1) (w.alloc (.cells #[.int .i64 (t:Int),.int .i64 (i:Int)] 52)) w1∧Below w.heap.size w w1):=⟨hb1',hw1⟩
  clear hb1 hb1' hw1 HD b0 b1 b2 b3 hfb hfn
  go_wp2_with fail
  refine Calls.mono (HO.out _ H1.out.2) ?_
  rintro e w2 ⟨rfl,hb2⟩
  have H2:Hid (Below w.heap.size w w2):=H1.out.2.trans (hb2.mono H1.out.2.size)
  clear hb2 h0 h1 q0 q1 q2 q3
  go_wp2_with fail
  go_ret
  exact ⟨_,_,rfl,srcL_block (heap_alloc_new w2 _),H2.out.alloc H2.out.size _⟩
 | false =>
  go_enter Tryz.func105,Tryz.ntmps105
  go_wp2_with fail
  refine Calls.mono (HD.out _ (HB1.out _)) ?_
  rintro e w1 ⟨rfl,hb1⟩
  have hb1':Below (w.heap.size+1) (w.alloc (.cells #[.int .i64 (t:Int),.int .i64 (i:Int)] 52)) w1:=by simpa using hb1
  obtain ⟨hw1,h0,h1,q0,q1,q2,q3⟩:=HST.out w1 hb1'
  have hl1:w.heap.size < w1.heap.size:=lt_of_cell h0
  have H1:Hid (Below (w.heap.size+1) (w.alloc (.cells #[.int .i64 (t:Int),.int .i64 (i:Int)] 52)) w1∧Below w.heap.size w w1):=⟨hb1',hw1⟩
  clear hb1 hb1' hw1 HD b0 b1 b2 b3 hfb hfn
  go_wp2_with fail
  refine Calls.mono (HO.out _ H1.out.2) ?_
  rintro e w2 ⟨rfl,hb2⟩
  have H2:Hid (Below w.heap.size w w2):=H1.out.2.trans (hb2.mono H1.out.2.size)
  clear hb2 h0 h1 q0 q1 q2 q3
  go_wp2_with fail
  go_ret
  exact ⟨_,_,rfl,srcL_block (heap_alloc_new w2 _),H2.out.alloc H2.out.size _⟩
end
section
open Go.RowKit
def lenR (b:Nat→Nat→List I4) (L:Nat→Nat):Nat→Nat:=fun t=>(codeR (b t) (L t)).length
def numR (b:Nat→Nat→List I4) (L:Nat→Nat):Nat→Nat→Nat→Int:=fun t i q=>nth4 ((codeR (b t) (L t)).getD i fenceI) q
theorem led_ok {rg m lk sz:Nat} {pl:Nat→Nat} {x:I4} (h:ordE rg m lk sz x.1 x.2.1 x.2.2.1 x.2.2.2=0) {sz':Nat} (hp:∀ a,a≤sz→pl a≤sz'):ordE rg m lk sz' (ledO pl x).1 (ledO pl x).2.1 (ledO pl x).2.2.1 (ledO pl x).2.2.2=0:=by
 obtain ⟨op,a,b,c⟩:=x
 show ordE rg m lk sz' op (if op=14 then _ else _) (if op=15 then _ else _) c=0
 simp only at h
 have ho:=ok_op h
 by_cases h14:op=14
 ·subst h14
  have h1:=ok_three (op:=14) rfl h
  have h2:=okN_place h1.1
  have h3:=hp a.toNat (by omega)
  unfold ordE
  simp only [kd,Int.reduceEq,↓reduceIte]
  have h4:okN rg m lk sz' 4 (pl a.toNat:Int)=true:=by
   unfold okN lim
   simp
   omega
  rw [h4]
  have h5:okN rg m lk sz' 0 b=true:=h1.2.1
  have h6:okN rg m lk sz' 0 c=true:=h1.2.2
  rw [h5,h6]
  rfl
 ·by_cases h15:op=15
  ·subst h15
   have h1:=ok_three (op:=15) rfl h
   have h2:=okN_place h1.2.1
   have h3:=hp b.toNat (by omega)
   unfold ordE
   simp only [kd,Int.reduceEq,↓reduceIte]
   have h4:okN rg m lk sz' 4 (pl b.toNat:Int)=true:=by
    unfold okN lim
    simp
    omega
   rw [h4]
   have h5:okN rg m lk sz' 1 a=true:=h1.1
   have h6:okN rg m lk sz' 0 c=true:=h1.2.2
   rw [h5,h6]
   rfl
  ·rw [if_neg h14,if_neg h15]
   rcases op_cases op with e | rfl | rfl | rfl | rfl | rfl | rfl | rfl | rfl | rfl | rfl | rfl | rfl | rfl | rfl | rfl | rfl | rfl | rfl
   ·omega
   all_goals first
    | exact absurd rfl h14
    | exact absurd rfl h15
    | exact h
theorem new_ok {n m lk rg:Nat} {L:Nat→Nat} {X:Nat→Nat→Nat→Int} (hc:COk n L X m lk rg) (b:Nat→Nat→List I4) (hb:∀ t i,t < n→i < L t→∀ x,x∈b t i→x=ordAt X t i∨x=fenceI):∀ t i,t < n→i < lenR b L t→ordE rg m lk (lenR b L t) (numR b L t i 0) (numR b L t i 1) (numR b L t i 2) (numR b L t i 3)=0:=by
 intro t j ht hj
 unfold lenR at hj
 rw [code_len] at hj
 obtain ⟨i,k,hi,hk,rfl⟩:=raw_find hj
 have h1:=code_at hk hi fenceI
 have hx:(b t i).getD k fenceI∈b t i:=by
  rw [List.getD_eq_getElem?_getD,List.getElem?_eq_getElem hk]
  exact List.getElem_mem hk
 unfold numR
 rw [h1]
 refine led_ok (sz:=L t) (x:=(b t i).getD k fenceI) ?_ (fun a ha=>by unfold lenR; rw [code_len]; exact pl_mono ha)
 rcases hb t i ht hi _ hx with e | e
 ·rw [e]; exact hc.ord t i ht hi
 ·rw [e]; rfl
theorem new_cok {n m lk rg:Nat} {L:Nat→Nat} {X:Nat→Nat→Nat→Int} (hc:COk n L X m lk rg) (b:Nat→Nat→List I4) (hb:∀ t i,t < n→i < L t→∀ x,x∈b t i→x=ordAt X t i∨x=fenceI) (hl:∀ t,t < n→lenR b L t≤1000):COk n (lenR b L) (numR b L) m lk rg:=⟨hc.n4,hl,hc.m64,hc.lk4,hc.rg0,hc.rg2,new_ok hc b hb⟩
end
section
open Go.RowKit
abbrev Sp:=Nat × Bool
section
variable {L:Nat} {X:Nat→Nat→Int} {K O:List Sp}
end
def wsL (L:Nat) (K:List Sp):List Bool:=(List.range L).map fun i=>decide ((i,true)∈K)
end
section
open Go.RowKit
def boolsV (l:List Bool):List Value:=l.map Value.bool
theorem boolsV_at {l:List Bool} {i:Nat} {b:Bool} (h:l[i]? = some b):(boolsV l)[i]? = some (.bool b):=by simp [boolsV,h]
theorem infoB:(Tryz.prog.info? 4).map (fun i=>(i.zero,i.size,i.bytes))=some (some (.bool false),1,1):=by kernel_rfl
theorem infoBs:(Tryz.prog.info? 82).map (fun i=>(i.zero,i.size,i.bytes))=some (some nilV,1,24):=by kernel_rfl
theorem owns_two {W:World} {B B':Nat} {e e':TypeId} {size size':Nat} {v v':Value} {n n':Nat} {xs xs':List Value} (h:W.ownsRow B e size v n xs) (h':W.ownsRow B' e' size' v' n' xs') (hne:e≠e') {g:Nat} (h1:v.ownBlock=some g):v'.ownBlock≠some g:=fun h2=>by
 rcases h.2 with ⟨h0,_⟩ | ⟨g1,cap,cur,hv,_,hh,_⟩
 ·rw [h0] at h1; simp [Value.ownBlock] at h1
 rcases h'.2 with ⟨h0,_⟩ | ⟨g2,cap2,cur2,hv2,_,hh2,_⟩
 ·rw [h0] at h2; simp [Value.ownBlock] at h2
 rw [hv] at h1
 rw [hv2] at h2
 have e1:g1=g:=by simpa [Value.ownBlock] using h1
 have e2:g2=g:=by simpa [Value.ownBlock] using h2
 rw [e1] at hh
 rw [e2,hh] at hh2
 simp only [Option.some.injEq,Obj.cells.injEq] at hh2
 exact hne hh2.2.1
theorem made_bools (n:Nat):(madeCells #[Value.bool false] n).toList=boolsV (wsL n []):=by
 apply List.ext_getElem?
 intro i
 simp only [madeCells,boolsV,wsL]
 by_cases h:i < n
 ·simp [h,Nat.mod_one]
 ·simp [h]
def WsIn (w:World) (wv:Value) (n:Nat) (L:Nat→Nat) (B:Nat→Nat→Bool):Prop:=∀ t,t < n→∃ g c gt c',wv=.slice (some ⟨g,0,none⟩) n c∧w.cell? ⟨g,t,none⟩=some (.slice (some ⟨gt,0,none⟩) (L t) c')∧∀ i,i < L t→w.cell? ⟨gt,i,none⟩=some (.bool (B t i))
theorem WsIn.below {w w':World} {wv:Value} {n:Nat} {L:Nat→Nat} {B:Nat→Nat→Bool} (h:WsIn w wv n L B) (hb:Below w.heap.size w w'):WsIn w' wv n L B:=fun t ht=>by
 obtain ⟨g,c,gt,c',h1,h2,h3⟩:=h t ht
 exact ⟨g,c,gt,c',h1,(hb.cell (lt_of_cell h2)).trans h2,fun i hi=>(hb.cell (lt_of_cell (h3 i hi))).trans (h3 i hi)⟩
end
section
open Go.RowKit
theorem rwaits_any (w:World) (op:Int):Calls Tryz.prog 35 #[.int .i64 op] w fun e w'=>e=.returned (.bool (wtO op))∧w'=w:=by
 unfold wtO
 by_cases h9:op=9
 ·subst h9
  go_enter Tryz.func35,Tryz.ntmps35
  go_wp2
  go_ret
  exact ⟨rfl,rfl⟩
 ·have h9':(op == 9)=false:=by simpa using h9
  by_cases h11:op=11
  ·subst h11
   go_enter Tryz.func35,Tryz.ntmps35
   go_wp2
   go_ret
   exact ⟨rfl,rfl⟩
  ·have h11':(op == 11)=false:=by simpa using h11
   by_cases h18:op=18
   ·subst h18
    go_enter Tryz.func35,Tryz.ntmps35
    go_wp2
    go_ret
    exact ⟨rfl,rfl⟩
   ·have h18':(op == 18)=false:=by simpa using h18
    rw [decide_eq_false h9,decide_eq_false h11,decide_eq_false h18]
    go_enter Tryz.func35,Tryz.ntmps35
    go_wp2
    go_ret
    exact ⟨rfl,rfl⟩
def pcsL (b:Nat→List I4) (l j:Nat):List Int:=(List.range (l+1)).map fun i=>if i < j then (plR b i:Int) else 0
theorem pcs_len (b:Nat→List I4) (l j:Nat):(pcsL b l j).length=l+1:=by simp [pcsL]
theorem pcs_at {b:Nat→List I4} {l j i:Nat} (hi:i < l+1):(pcsL b l j).getD i 0=if i < j then (plR b i:Int) else 0:=by simp [pcsL,List.getD,hi]
theorem pcs_set {b:Nat→List I4} {l j:Nat}:(pcsL b l j).set j (plR b j:Int)=pcsL b l (j+1):=by
 apply List.ext_getElem?
 intro i
 by_cases hi:i < l+1
 ·by_cases e:j=i
  ·subst e
   rw [List.getElem?_set_self (by rw [pcs_len]; exact hi)]
   simp [pcsL,hi]
  ·rw [List.getElem?_set_ne e]
   simp only [pcsL,List.getElem?_map,List.getElem?_range hi,Option.map_some]
   congr 1
   by_cases h:i < j
   ·rw [if_pos h,if_pos (by omega)]
   ·rw [if_neg h,if_neg (by omega)]
 ·rw [List.getElem?_eq_none (by simp [pcs_len]; omega),List.getElem?_eq_none (by rw [pcs_len]; omega)]
theorem made_ints6 (n:Nat):(madeCells #[Value.int .i64 0] n).toList=intsV (List.replicate n 0):=by
 apply List.ext_getElem?
 intro i
 simp only [madeCells,intsV]
 by_cases h:i < n
 ·simp [h,Nat.mod_one]
 ·simp [h]
theorem put_start (w:World) (b:Nat→List I4) (l:Nat) (hl:l≤1000):∃ w1,(Instr.makeSlice 23 (.int .i64 ((l:Int)+1)) (.int .i64 ((l:Int)+1))).run Tryz.prog w=.ok (.slice (some ⟨w.heap.size,0,none⟩) (l+1) (l+1)) w1∧w1.ownsRow w.heap.size 3 1 (.slice (some ⟨w.heap.size,0,none⟩) (l+1) (l+1)) (l+1) (intsV (pcsL b l 0))∧Below w.heap.size w w1:=by
 obtain ⟨i,hi,hz0,hz1,hz2⟩:=info_is infoI
 obtain ⟨w1,r1,r2,r3⟩:=run_makeSlice_full (P:=Tryz.prog) w w.heap.size 23 3 i (.int .i64 0) 1 Tryz.underlying23 hi hz0 hz1 .i64 .i64 (l+1) (by omega) (by rw [hz2]; omega) (by unfold maxLen; omega) (Nat.le_refl _)
 have hlow:Below w.heap.size w w1:=(Below.refl _ _).grown r3 (Nat.le_refl _) (fun k hk=>by cases hk)
 refine ⟨w1,by simpa using r1,?_,hlow⟩
 rw [Nat.mul_one] at r2
 have e:(Value.int .i64 0).cells=#[Value.int .i64 0]:=rfl
 have e2:pcsL b l 0=List.replicate (l+1) 0:=by
  apply List.ext_getElem?
  intro i
  by_cases h:i < l+1
  ·simp [pcsL,h]
  ·rw [List.getElem?_eq_none (by rw [pcs_len]; omega),List.getElem?_eq_none (by simp; omega)]
 rw [e,made_ints6] at r2
 rw [e2]
 exact r2
def BeIn (w:World) (ba:Option Addr) (l:Nat) (b:Nat→List I4):Prop:=∀ i,i < l→∃ g o sa c,ba=some ⟨g,o,none⟩∧w.cell? ⟨g,o+i,none⟩=some (.slice sa (b i).length c)∧SrcL w sa (cellsT (b i))
theorem BeIn.below {w w':World} {ba:Option Addr} {l:Nat} {b:Nat→List I4} (h:BeIn w ba l b) (hb:Below w.heap.size w w'):BeIn w' ba l b:=fun i hi=>by
 obtain ⟨g,o,sa,c,h1,h2,h3⟩:=h i hi
 exact ⟨g,o,sa,c,h1,(hb.cell (lt_of_cell h2)).trans h2,h3.below hb⟩
theorem srcL_order {w:World} {sa:Option Addr} {r:List I4} {k:Nat} (h:SrcL w sa (cellsT r)) (hk:k < r.length) (d:I4):∃ g o,sa=some ⟨g,o,none⟩∧w.cell? ⟨g,o+k*4,none⟩=some (.int .i64 (r.getD k d).1)∧w.cell? ⟨g,o+k*4+1,none⟩=some (.int .i64 (r.getD k d).2.1)∧w.cell? ⟨g,o+k*4+2,none⟩=some (.int .i64 (r.getD k d).2.2.1)∧w.cell? ⟨g,o+k*4+3,none⟩=some (.int .i64 (r.getD k d).2.2.2):=by
 obtain ⟨y0,y1,y2,y3⟩:=cellsT_at hk d
 obtain ⟨g,o,e,h0⟩:=h _ _ y0
 obtain ⟨g1,o1,e1,h1⟩:=h _ _ y1
 obtain ⟨g2,o2,e2,h2⟩:=h _ _ y2
 obtain ⟨g3,o3,e3,h3⟩:=h _ _ y3
 rw [e] at e1 e2 e3
 simp only [Option.some.injEq,Addr.mk.injEq,and_true] at e1 e2 e3
 obtain ⟨rfl,rfl⟩:=e1
 obtain ⟨rfl,rfl⟩:=e2
 obtain ⟨rfl,rfl⟩:=e3
 exact ⟨g,o,e,h0,h1,h2,h3⟩
structure PuI (S:World) (b:Nat→List I4) (l:Nat) (W:World) (ov:Value) (r:List I4):Prop where
 low:Below S.heap.size S W
 pls:W.ownsRow S.heap.size 3 1 (.slice (some ⟨S.heap.size,0,none⟩) (l+1) (l+1)) (l+1) (intsV (pcsL b l (l+1)))
 out:OwnC W S.heap.size ov r
theorem PuI.push {S W V:World} {b:Nat→List I4} {l:Nat} {ov:Value} {r:List I4} (h:PuI S b l W ov r) (hb:Below W.heap.size W V) (x:I4) (hr:r.length≤100000) :
  ∃ g cap w3,(AppS #[35,35] 35 #[ov,.slice (some ⟨V.heap.size,0,none⟩) 1 1]).run Tryz.prog (V.alloc (.cells #[.int .i64 x.1,.int .i64 x.2.1,.int .i64 x.2.2.1,.int .i64 x.2.2.2] 34))=.ok (.slice (some ⟨g,0,none⟩) (r.length+1) cap) w3∧PuI S b l w3 (.slice (some ⟨g,0,none⟩) (r.length+1) cap) (r++[x]):=by
 have h0:PuI S b l V ov r:=⟨h.low.trans (hb.mono h.low.size),owns_below2 h.pls hb,h.out.below hb⟩
 have hl:=h0.low.size
 obtain ⟨g,cap,w3,r1,r2,r3,r4⟩:=app_row (T:=35) Tryz.underlying35 infoO rfl (by omega) h0.out (Below.refl _ V) hl 1 #[.int .i64 x.1,.int .i64 x.2.1,.int .i64 x.2.2.1,.int .i64 x.2.2.2] rfl (by simp [Value.oneCell']) (by omega) (by omega) (by omega)
 have hbA:Below V.heap.size V (V.alloc (.cells #[.int .i64 x.1,.int .i64 x.2.1,.int .i64 x.2.2.1,.int .i64 x.2.2.2] 34)):=(Below.refl _ _).alloc (Nat.le_refl _) _
 have hp:=owns_below2 h0.pls hbA
 have ho:=owns_below2 h0.out hbA
 refine ⟨g,cap,w3,r1,⟨(h0.low.alloc hl _).grown r3 (by simp; omega) (fun q hq=>(h0.out.lt q hq).1),own_grown hp r3 (fun q hq e=>owns_two ho hp (by decide) e hq),?_⟩⟩
 unfold OwnC
 rw [List.length_append,List.length_singleton,cellsT_snoc]
 exact r2
end
section
open Go.RowKit
attribute [local go_sem ↓] appS_eq in
theorem put6_any (w:World) (ba:Option Addr) (bc:Nat) (ca:Option Addr) (l cc:Nat) (b:Nat→List I4) (X:Nat→Nat→Int) (hl:l≤1000) (hbe:BeIn w ba l b) (hord:∀ i,i < l→∃ g o,ca=some ⟨g,o,none⟩∧w.cell? ⟨g,o+i*4,none⟩=some (.int .i64 (X i 0))) (hb2:∀ i,i < l→(b i).length≤2)
  (hx:∀ i x,i < l→x∈b i→(x.1=14→X i 0=14∧0≤x.2.1∧x.2.1≤l)∧(x.1=15→X i 0=15∧0≤x.2.2.1∧x.2.2.1≤l)) :
  Calls Tryz.prog 71 #[.slice ba l bc,.slice ca l cc] w fun e w'=>∃ v,e=.returned v∧OwnC w' w.heap.size v (codeR b l)∧Below w.heap.size w w':=by
 obtain ⟨w1,hrun1,hP1,hB1⟩:=put_start w b l hl
 have HS:Hid (w1.ownsRow w.heap.size 3 1 (.slice (some ⟨w.heap.size,0,none⟩) (l+1) (l+1)) (l+1) (intsV (pcsL b l 0))∧Below w.heap.size w w1):=⟨hP1,hB1⟩
 have HBE:=hiD hbe
 have HORD:=hiD hord
 have HB2:=hiD hb2
 have HX:=hiD hx
 have hpl2:∀ i,i≤l→plR b i≤2*i:=fun i=>by
  induction i with
  | zero=>intro _; exact Nat.le_refl _
  | succ i ih =>
   intro h
   rw [plR]
   have:=hb2 i (by omega)
   have:=ih (by omega)
   omega
 have HPL:=hiD hpl2
 clear hP1 hB1 hbe hord hb2 hx hpl2
 go_enter Tryz.func71,Tryz.ntmps71
 go_wp2
 clear hrun1
 go_loopw [6,7] (fun nv iv wr=>∃ (j:Nat) (q:Nat),j≤l∧iv=.int .i64 j∧nv=.int .i64 q∧q≤2*j∧Hid (q=plR b j∧wr.ownsRow w.heap.size 3 1 (.slice (some ⟨w.heap.size,0,none⟩) (l+1) (l+1)) (l+1) (intsV (pcsL b l j))∧Below w.heap.size w wr)) (fun _ iv _=>l - (intOf iv).toNat)
 case atStart=>exact ⟨0,0,Nat.zero_le _,rfl,rfl,by omega,rfl,HS.out⟩
 case round =>
  obtain ⟨j,q,hj,rfl,rfl,hq,HI⟩:=hrel
  clear HS
  by_cases hjl:j < l
  ·obtain ⟨g,o,sa,c,rfl,hc1,_⟩:=(BeIn.below HBE.out HI.out.2.2) j hjl
   have hne:g≠w.heap.size:=by
    obtain ⟨g',o',sa',c',e',hc',_⟩:=HBE.out j hjl
    simp only [Option.some.injEq,Addr.mk.injEq,and_true] at e'
    have:=lt_of_cell hc'
    rw [← e'.1] at this
    have h:g < w.heap.size:=this
    omega
   have hne':w.heap.size≠g:=fun e=>hne e.symm
   have y0:=fam_cell HI.out.2.1 (g:=w.heap.size) rfl (intsV_at (l:=pcsL b l j) (i:=j) (by rw [pcs_len]; omega))
   have yf:wr.frozen? ⟨w.heap.size,j,none⟩=false:=fam_frozen HI.out.2.1 rfl _
   have hbl:=HB2.out j hjl
   obtain ⟨bl,hbl'⟩:∃ x,(b j).length=x:=⟨_,rfl⟩
   have HR:Hid (q+bl=plR b (j+1)∧(wr.setCell ⟨w.heap.size,j,none⟩ (.int .i64 q)).ownsRow w.heap.size 3 1 (.slice (some ⟨w.heap.size,0,none⟩) (l+1) (l+1)) (l+1) (intsV (pcsL b l (j+1)))∧Below w.heap.size w (wr.setCell ⟨w.heap.size,j,none⟩ (.int .i64 q))):=by
    refine ⟨by rw [plR,HI.out.1,hbl'],?_,HI.out.2.2.setCell (Nat.le_refl _) _⟩
    have:=fam_put HI.out.2.1 (g:=w.heap.size) rfl j (.int .i64 (q:Int))
    have e:(intsV (pcsL b l j)).set j (.int .i64 (q:Int))=intsV (pcsL b l (j+1)):=by
     rw [← pcs_set,intsV_set,HI.out.1]
    rw [e] at this
    exact this
   rw [hbl'] at hc1 hbl
   clear hbl'
   go_wp2
   go_roundw
   case rel=>exact ⟨j+1,q+bl,by omega,by go_num,by go_num,by omega,HR⟩
   case measure=>simp [intOf]; omega
  ·have hjl':j=l:=by omega
   subst hjl'
   have y0:=fam_cell HI.out.2.1 (g:=w.heap.size) rfl (intsV_at (l:=pcsL b j j) (i:=j) (by rw [pcs_len]; omega))
   have yf:wr.frozen? ⟨w.heap.size,j,none⟩=false:=fam_frozen HI.out.2.1 rfl _
   have HR:Hid (PuI w b j (wr.setCell ⟨w.heap.size,j,none⟩ (.int .i64 q)) nilV []):=by
    refine ⟨HI.out.2.2.setCell (Nat.le_refl _) _,?_,World.ownsRow_nil _ _ _ _⟩
    have:=fam_put HI.out.2.1 (g:=w.heap.size) rfl j (.int .i64 (q:Int))
    have e:(intsV (pcsL b j j)).set j (.int .i64 (q:Int))=intsV (pcsL b j (j+1)):=by
     rw [← pcs_set,intsV_set,HI.out.1]
    rw [e] at this
    exact this
   obtain ⟨W2,hW2⟩:∃ V,wr.setCell ⟨w.heap.size,j,none⟩ (.int .i64 (q:Int))=V:=⟨_,rfl⟩
   rw [hW2] at HR
   have HW2:=hiD hW2
   clear HI hW2
   go_wp2
   rw [HW2.out]
   clear HW2 y0 yf
   obtain ⟨l,rfl⟩:∃ l,l=j:=⟨_,rfl⟩
   go_loopw [8,9] (fun ov iv wr=>∃ (j:Nat) (oa:Option Addr) (ol oc:Nat),j≤l∧iv=.int .i64 j∧ov=.slice oa ol oc∧ol≤2*j∧Hid (ol=plR b j∧PuI w b l wr (.slice oa ol oc) ((rawR b j).map (ledO (plR b))))) (fun _ iv _=>l - (intOf iv).toNat)
   case atStart=>exact ⟨0,none,0,0,Nat.zero_le _,rfl,rfl,by omega,rfl,HR.out⟩
   case round =>
    obtain ⟨j,oa,ol,oc,hj,rfl,rfl,hol,HI⟩:=hrel
    clear HR
    by_cases hjl:j < l
    ·go_wp2
     obtain ⟨S,rfl⟩:∃ V,V=wr:=⟨_,rfl⟩
     have hbl:=HB2.out j hjl
     obtain ⟨bl,hbl'⟩:∃ x,(b j).length=x:=⟨_,rfl⟩
     have HBL:Hid ((b j).length=bl):=hbl'
     rw [hbl'] at hbl
     clear hbl'
     go_loopw [8,10] (fun ov kv wi=>∃ (k:Nat) (oa2:Option Addr) (oc2:Nat),k≤bl∧kv=.int .i64 k∧ov=.slice oa2 (ol+k) oc2∧Hid (PuI w b l wi (.slice oa2 (ol+k) oc2) ((rawR b j++(b j).take k).map (ledO (plR b))))) (fun _ kv _=>bl - (intOf kv).toNat)
     case atStart=>exact ⟨0,oa,oc,Nat.zero_le _,rfl,rfl,by show PuI _ _ _ _ _ _; simpa using HI.out.2⟩
     case round =>
      obtain ⟨k,oa2,oc2,hk,rfl,rfl,HJ⟩:=hrel
      obtain ⟨g,o,sa,c,rfl,hc1,hs1⟩:=(BeIn.below HBE.out HJ.out.low) j hjl
      rw [HBL.out] at hc1
      by_cases hkl:k < bl
      ·obtain ⟨sg,so,rfl,c0,c1,c2,c3⟩:=srcL_order hs1 (k:=k) (by rw [HBL.out]; exact hkl) fenceI
       obtain ⟨⟨xo,xa,xb,xc⟩,hxx⟩:∃ x,(b j).getD k fenceI=x:=⟨_,rfl⟩
       rw [hxx] at c0 c1 c2 c3
       simp only at c0 c1 c2 c3
       have hkb:k < (b j).length:=by rw [HBL.out]; exact hkl
       have hmem:(xo,xa,xb,xc)∈b j:=by rw [← hxx,List.getD_eq_getElem?_getD,List.getElem?_eq_getElem hkb]; exact List.getElem_mem hkb
       have hX:=HX.out j _ hjl hmem
       have HTK:Hid ((b j).take (k+1)=(b j).take k++[(xo,xa,xb,xc)]):=by
        show _=_
        rw [List.take_add_one,← hxx,List.getElem?_eq_getElem hkb]
        simp [List.getD,hkb]
       have hrl:((rawR b j++(b j).take k).map (ledO (plR b))).length=ol+k:=by
        rw [List.length_map,List.length_append,raw_len,List.length_take,HBL.out,HI.out.1]; omega
       obtain ⟨cg,co,rfl,hcc⟩:=HORD.out j hjl
       have hcl:cg < w.heap.size:=lt_of_cell hcc
       have hcw:=(HJ.out.low.cell (p:=⟨cg,co+j*4,none⟩) hcl).trans hcc
       have u0:=cell_up c0
       have u1:=cell_up c1
       have u2:=cell_up c2
       have u3:=cell_up c3
       have uc:=cell_up hcw
       have uc1:=cell_up hc1
       have HFIN:Hid (∀ W' v,PuI w b l W' v ((rawR b j++(b j).take k).map (ledO (plR b))++[ledO (plR b) (xo,xa,xb,xc)])→PuI w b l W' v ((rawR b j++(b j).take (k+1)).map (ledO (plR b)))):=fun W' v h=>by
        rw [HTK.out,← List.append_assoc,List.map_append,List.map_singleton]
        exact h
       simp only at hX
       clear hxx hmem hs1 hcc
       by_cases e14:xo=14
       ·subst e14
        obtain ⟨hX0,hxa,hxb⟩:=hX.1 rfl
        obtain ⟨n,rfl⟩:∃ n:Nat,xa=n:=⟨xa.toNat,by omega⟩
        rw [hX0] at hcw uc
        have hn:n < l+1:=by omega
        have y0:=fam_cell HJ.out.pls (g:=w.heap.size) rfl (intsV_at (l:=pcsL b l (l+1)) (i:=n) (by rw [pcs_len]; omega))
        rw [pcs_at hn,if_pos hn] at y0
        have y0u:=cell_up y0
        obtain ⟨pn,hpn⟩:∃ x:Int,(plR b n:Int)=x:=⟨_,rfl⟩
        rw [hpn] at y0 y0u
        obtain ⟨g8,cap8,w8,hrun8,hU8⟩:=HJ.out.push (V:=wr.alloc (.cells #[.int .i64 14,.int .i64 pn,.int .i64 xb,.int .i64 xc] 34)) ((Below.refl _ _).alloc (Nat.le_refl _) _) (14,pn,xb,xc) (by rw [hrl]; omega)
        rw [hrl,World.size_alloc] at hrun8
        rw [hrl] at hU8
        simp only at hrun8
        have HU8:=hiD (HFIN.out _ _ (by
         have e:ledO (plR b) (14,(n:Int),xb,xc)=(14,pn,xb,xc):=by unfold ledO; simp [hpn]
         rw [e]; exact hU8))
        clear hU8 HFIN HTK hX hpn hrl
        go_wp2
        go_roundw
        case rel=>exact ⟨k+1,_,_,by omega,by go_num,rfl,HU8⟩
        case measure=>simp [intOf]; omega
       ·by_cases e15:xo=15
        ·subst e15
         obtain ⟨hX0,hxa,hxb⟩:=hX.2 rfl
         obtain ⟨n,rfl⟩:∃ n:Nat,xb=n:=⟨xb.toNat,by omega⟩
         rw [hX0] at hcw uc
         have hn:n < l+1:=by omega
         have y0:=fam_cell HJ.out.pls (g:=w.heap.size) rfl (intsV_at (l:=pcsL b l (l+1)) (i:=n) (by rw [pcs_len]; omega))
         rw [pcs_at hn,if_pos hn] at y0
         have y0u:=cell_up y0
         obtain ⟨pn,hpn⟩:∃ x:Int,(plR b n:Int)=x:=⟨_,rfl⟩
         rw [hpn] at y0 y0u
         obtain ⟨g8,cap8,w8,hrun8,hU8⟩:=HJ.out.push (V:=wr.alloc (.cells #[.int .i64 15,.int .i64 xa,.int .i64 pn,.int .i64 xc] 34)) ((Below.refl _ _).alloc (Nat.le_refl _) _) (15,xa,pn,xc) (by rw [hrl]; omega)
         rw [hrl,World.size_alloc] at hrun8
         rw [hrl] at hU8
         simp only at hrun8
         have HU8:=hiD (HFIN.out _ _ (by
          have e:ledO (plR b) (15,xa,(n:Int),xc)=(15,xa,pn,xc):=by unfold ledO; simp [hpn]
          rw [e]; exact hU8))
         clear hU8 HFIN HTK hX hpn hrl
         go_wp2
         go_roundw
         case rel=>exact ⟨k+1,_,_,by omega,by go_num,rfl,HU8⟩
         case measure=>simp [intOf]; omega
        ·have e14':(xo == 14)=false:=by simpa using e14
         have e15':(xo == 15)=false:=by simpa using e15
         obtain ⟨g8,cap8,w8,hrun8,hU8⟩:=HJ.out.push (V:=wr.alloc (.cells #[.int .i64 xo,.int .i64 xa,.int .i64 xb,.int .i64 xc] 34)) ((Below.refl _ _).alloc (Nat.le_refl _) _) (xo,xa,xb,xc) (by rw [hrl]; omega)
         rw [hrl,World.size_alloc] at hrun8
         rw [hrl] at hU8
         simp only at hrun8
         have HU8:=hiD (HFIN.out _ _ (by
          have e:ledO (plR b) (xo,xa,xb,xc)=(xo,xa,xb,xc):=by unfold ledO; simp [e14,e15]
          rw [e]; exact hU8))
         clear hU8 HFIN HTK hX hrl
         go_wp2
         go_roundw
         case rel=>exact ⟨k+1,_,_,by omega,by go_num,rfl,HU8⟩
         case measure=>simp [intOf]; omega
      ·have HR:Hid (ol+k=plR b (j+1)∧PuI w b l wr (.slice oa2 (ol+k) oc2) ((rawR b (j+1)).map (ledO (plR b)))):=by
        have hkb:k=(b j).length:=by rw [HBL.out]; omega
        refine ⟨by rw [plR,HI.out.1,hkb],?_⟩
        have:=HJ.out
        rw [hkb,List.take_length] at this
        rw [rawR,hkb]
        exact this
       go_wp2
       go_roundw
       case rel=>exact ⟨j+1,_,_,_,by omega,by go_num,rfl,by omega,HR⟩
       case measure=>simp [intOf]; omega
    ·have hjl':j=l:=by omega
     subst hjl'
     go_wp2
     go_ret
     exact ⟨_,rfl,HI.out.2.out,HI.out.2.low⟩
end
end Go.Proofs.YtelckcpjmekgcacGreatDoor
