import Derived.Test.YtelckcpjmekgcacGreatDoorPBuf2
import Derived.Lib.SliceRun
namespace Go.Proofs.YtelckcpjmekgcacGreatDoor
set_option maxHeartbeats 3200000
set_option maxRecDepth 100000
section
open Go.RowKit
def ClS (ts:Array TypeId) (ty:TypeId) (args:Array Value):Sem Value:=Builtin.clear_ ts ty args
theorem clS_eq (ts:Array TypeId) (ty:TypeId) (args:Array Value):Builtin.clear_ ts ty args=ClS ts ty args:=rfl
theorem run_clear_store (W:World) (ty:TypeId) (b o c:Nat) (hc:∀ j,j < 3→(W.cell? ⟨b,o+j,none⟩).isSome=true) (hf:∀ j,j < 3→W.frozen? ⟨b,o+j,none⟩=false) :
  (ClS #[263] ty #[.slice (some ⟨b,o,none⟩) 1 c]).run Tryz.prog W=.ok (.tuple #[]) (W.setCells b o [.bool false,.int .i64 0,.int .i64 0]):=by
 obtain ⟨i,hi,hz0,_,_⟩:=info_is infoStore
 have hv:∀ w,(zeroValue 268).run Tryz.prog w=.ok (.agg #[.bool false,.int .i64 0,.int .i64 0]) w:=fun w=>by simp [zeroValue,typeInfo,hi,hz0]
 have hzc:(Builtin.zeroCells (Value.agg #[.bool false,.int .i64 0,.int .i64 0]).cells 1).toList=[.bool false,.int .i64 0,.int .i64 0]:=by kernel_rfl
 have hst:=run_storeCells_cells (P:=Tryz.prog) b o [.bool false,.int .i64 0,.int .i64 0] 0 W (by simpa using hc) (by simpa using hf) (by simp [Value.oneCell'])
 simp only [Nat.add_zero] at hst
 unfold ClS
 simp [Builtin.clear_,run_underlying Tryz.underlying263,hv,hzc,hst]
theorem putL_len:∀ (us:List Value) (xs:List Value) (o:Nat),(putL xs o us).length=xs.length
 | [],_,_=>rfl
 | u::us,xs,o=>by unfold putL; rw [putL_len us]; simp
theorem putL_take:∀ (us xs:List Value) (o m:Nat),m≤o→(putL xs o us).take m=xs.take m
 | [],_,_,_,_=>rfl
 | u::us,xs,o,m,h=>by
  unfold putL
  rw [putL_take us _ _ _ (by omega),List.take_set_of_le (by omega)]
attribute [local go_sem ↓] appS_eq clS_eq
theorem delete_any (w:World) (B qb qc k:Nat) (l:List Wt) (hown:w.ownsRow B 268 3 (.slice (some ⟨qb,0,none⟩) l.length qc) l.length (waitV l)) (hl:l.length≤3) (hk:k < l.length) :
  Calls Tryz.prog 201 #[.slice (some ⟨qb,0,none⟩) l.length qc,.int .i64 (k:Int),.int .i64 ((k:Int)+1)] w fun e w'=>e=.returned (.slice (some ⟨qb,0,none⟩) (l.length - 1) qc)∧w'.ownsRow B 268 3 (.slice (some ⟨qb,0,none⟩) (l.length - 1) qc) (l.length - 1) (waitV (l.eraseIdx k))∧w.grownBy w' (some qb):=by
 have hqc:l.length≤qc:=by
  rcases hown.2 with ⟨h0,_⟩ | ⟨g',cap',cur,hv',_,_,h5,_⟩
  ·simp at h0
  ·simp only [Value.slice.injEq,Option.some.injEq,Addr.mk.injEq,and_true] at hv'
   rw [hv'.2.2]; exact h5
 have hcut:=waitV_cut hl hk
 have hwl:=waitV_len l
 obtain ⟨m,hn⟩:∃ m,l.length=m+1:=⟨l.length - 1,by omega⟩
 rw [hn] at hown hqc hl hk hcut hwl ⊢
 simp only [Nat.add_sub_cancel] at hcut ⊢
 obtain ⟨vs,hvs⟩:∃ vs,vs=(waitV l).drop ((k+1)*3):=⟨_,rfl⟩
 have hvl:vs.length=(m - k)*3:=by rw [hvs,List.length_drop,hwl]; omega
 have hqb:(Value.slice (some ⟨qb,0,none⟩) (m+1) qc).ownBlock=some qb:=rfl
 have hcell:∀ (W:World),W.heap=w.heap→∀ j,j < (m+1)*3→∃ u,(waitV l)[j]? = some u∧W.cell? ⟨qb,j,none⟩=some u:=fun W e j hj=>by
  have hj':j < (waitV l).length:=by rw [hwl]; exact hj
  exact ⟨_,List.getElem?_eq_getElem hj',(World.cell?_of_block (by rw [e])).trans (fam_cell hown hqb (List.getElem?_eq_getElem hj'))⟩
 have hone:∀ u∈vs,u.oneCell'=true:=fun u hu=>by
  rw [hvs] at hu
  have:=List.mem_of_mem_drop hu
  unfold waitV rows3 at this
  rw [List.mem_map] at this
  obtain ⟨j,_,rfl⟩:=this
  exact waitC_one _ _
 obtain ⟨i,hi,hz0,hz1,hz2⟩:=info_is infoStore
 have hrun:∀ W a2 c2,W.heap=w.heap→(0 < m - k→a2=⟨qb,(k+1)*3,none⟩)→(AppS #[263,263] 263 #[.slice (some ⟨qb,0,none⟩) k qc,.slice (some a2) (m - k) c2]).run Tryz.prog W=.ok (.slice (some ⟨qb,0,none⟩) m qc) (W.setCells qb (k*3) vs):=fun W a2 c2 e ha2=>by
  have hsrc:Src Tryz.prog i.size 263 (.slice (some a2) (m - k) c2) (m - k) vs W:=by
   rw [hz1]
   refine Src.ofSlice W Tryz.underlying263 a2 _ c2 _ hvl (fun j u hu=>?_) hone
   have hj:j < (m - k)*3:=by
    rcases Nat.lt_or_ge j ((m - k)*3) with h | h
    ·exact h
    ·rw [List.getElem?_eq_none (by rw [hvl]; exact h)] at hu; cases hu
   rw [hvs,List.getElem?_drop] at hu
   have hadd:(⟨qb,(k+1)*3,none⟩:Addr).add j=⟨qb,(k+1)*3+j,none⟩:=by unfold Addr.add; split <;> simp_all
   rw [ha2 (by omega),hadd]
   obtain ⟨u',g1,g2⟩:=hcell W e ((k+1)*3+j) (by omega)
   rw [hu] at g1
   rw [g2,g1]
  have:=run_append_room_src W 263 263 263 268 i Tryz.underlying263 hi qb 0 k qc (.slice (some a2) (m - k) c2) (m - k) _ hsrc (by omega) (fun j hj=>by
   rw [hvl] at hj
   obtain ⟨u',_,g2⟩:=hcell W e (0+k*i.size+j) (by rw [hz1]; omega)
   rw [g2]; rfl) (fun j hj=>(World.frozen?_of_block (by rw [e])).trans (fam_frozen hown hqb _))
  rw [hz1,Nat.zero_add,show k+(m - k)=m by omega] at this
  exact this
 have hr1:(AppS #[263,263] 263 #[.slice (some ⟨qb,0,none⟩) k qc,.slice (if qc=k+1 then some ⟨qb,0,none⟩ else some ⟨qb,(k+1)*3,none⟩) (m - k) (qc - (k+1))]).run Tryz.prog w.drew=.ok (.slice (some ⟨qb,0,none⟩) m qc) (w.drew.setCells qb (k*3) vs):=by
  split
  ·exact hrun w.drew ⟨qb,0,none⟩ _ rfl (fun h=>by omega)
  ·exact hrun w.drew ⟨qb,(k+1)*3,none⟩ _ rfl (fun _=>rfl)
 have hown1:(w.drew.setCells qb (k*3) vs).ownsRow B 268 3 (.slice (some ⟨qb,0,none⟩) (m+1) qc) (m+1) (putL (waitV l) (k*3) vs):=fam_puts hqb vs (k*3) w.drew _ (fam_keeps hown (fun _ _=>rfl))
 have hcl:=fun W (e:W.heap=(w.drew.setCells qb (k*3) vs).heap)=>run_clear_store W 0 qb (m*3) (qc - m) (fun j hj=>by
   have hj':m*3+j < (putL (waitV l) (k*3) vs).length:=by rw [putL_len,hwl]; omega
   rw [(World.cell?_of_block (by rw [e])).trans (fam_cell hown1 hqb (List.getElem?_eq_getElem hj'))]; rfl) (fun j hj=>(World.frozen?_of_block (by rw [e])).trans (fam_frozen hown1 hqb _))
 have hc0:=hcl _ rfl
 have hc1:=hcl (w.drew.setCells qb (k*3) vs).drew rfl
 have HF:Hid (∀ W,W.heap=((w.drew.setCells qb (k*3) vs).setCells qb (m*3) [.bool false,.int .i64 0,.int .i64 0]).heap→W.os=w.os→W.tape=w.tape→W.output=w.output→W.ownsRow B 268 3 (.slice (some ⟨qb,0,none⟩) m qc) m (waitV (l.eraseIdx k))∧w.grownBy W (some qb)):=fun W e e1 e2 e3=>by
  have hown2:=fam_puts hqb [.bool false,.int .i64 0,.int .i64 0] (m*3) _ _ hown1
  have hsh:=fam_shrink hown2 (m:=m) (by omega)
  rw [putL_take _ _ _ _ (Nat.le_refl _),hvs,hcut] at hsh
  refine ⟨fam_keeps hsh (fun g _=>by rw [e,hvs]),⟨e1,e2,e3,?_,fun j hj hne=>?_⟩⟩
  ·rw [e]
   have h1:=(grown_puts qb vs (k*3) w.drew).size
   have h2:=(grown_puts qb [.bool false,.int .i64 0,.int .i64 0] (m*3) (w.drew.setCells qb (k*3) vs)).size
   exact Nat.le_trans h1 h2
  ·have h1:=(grown_puts qb vs (k*3) w.drew)
   have h2:=(grown_puts qb [.bool false,.int .i64 0,.int .i64 0] (m*3) (w.drew.setCells qb (k*3) vs))
   rw [e]
   exact (h2.block j (Nat.lt_of_lt_of_le hj h1.size) hne).trans (h1.block j hj hne)
 have HG:Hid (∀ vs o (W:World),(W.setCells qb o vs).os=W.os∧(W.setCells qb o vs).tape=W.tape∧(W.setCells qb o vs).output=W.output):=fun vs o W=>⟨(grown_puts qb vs o W).os,(grown_puts qb vs o W).tape,(grown_puts qb vs o W).output⟩
 have hkk:¬ (k:Int)=(k:Int)+1:=by omega
 clear hown hcut hwl hvs hvl hqb hcell hone hi hz0 hz1 hz2 hrun hown1 hcl hn
 go_enter Tryz.func201,Tryz.ntmps201
 go_wp2
 go_region
 all_goals go_wp2
 all_goals go_ret
 all_goals have hf:=HF.out _ rfl ((HG.out _ _ _).1.trans ((HG.out _ _ _).1.trans rfl)) ((HG.out _ _ _).2.1.trans ((HG.out _ _ _).2.1.trans rfl)) ((HG.out _ _ _).2.2.trans ((HG.out _ _ _).2.2.trans rfl))
 all_goals first | exact ⟨rfl,hf⟩ | (simp only [‹qc=k+1›] at hf; exact ⟨rfl,hf⟩)
end
section
open Go.RowKit
theorem bits_pos (op:BinOp) (x y:Int):0≤bits op .u64 x y:=by
 unfold bits
 simp only [IntKind.wrap_u64]
 exact Int.emod_nonneg _ (by decide)
def sumS (q x:Int):Int:=bits .xor .u64 (IntKind.u64.wrap (bits .xor .u64 q (IntKind.u64.wrap x)*1099511628211)) (IntKind.u64.wrap (bits .xor .u64 q (IntKind.u64.wrap x)*1099511628211)/536870912)
def sumH (l:List Int):Nat→Int
 | 0=>l.length
 | k+1=>sumS (sumH l k) (l.getD k 0)
theorem sumH_pos (l:List Int):∀ k,0≤sumH l k
 | 0=>Int.natCast_nonneg _
 | k+1=>by unfold sumH sumS; exact bits_pos _ _ _
def sumL (l:List Int):Nat:=(sumH l l.length).toNat % 4096
theorem sumL_lt (l:List Int):sumL l < 4096:=Nat.mod_lt _ (by decide)
theorem sum_any (a:Option Addr) (l:List Int) (c:Nat) (hn:l.length≤100000) (w:World) (h:IIn w a l.length (fun i=>l.getD i 0)) :
  Calls Tryz.prog 86 #[.slice a l.length c] w fun e w'=>e=.returned (.int .i64 (sumL l:Nat))∧w'=w:=by
 go_enter Tryz.func86,Tryz.ntmps86
 go_wp2
 go_loop [3,4] (fun s i=>∃ (q:Int) (k:Nat),k≤l.length∧Hid (q=sumH l k)∧s=.int .u64 q∧i=.int .i64 k) (fun _ i=>l.length - (intOf i).toNat)
 case atStart=>exact ⟨_,0,Nat.zero_le _,rfl,rfl,rfl⟩
 case round =>
  obtain ⟨q,k,hk,hq,rfl,rfl⟩:=hrel
  by_cases hlt:k < l.length
  ·obtain ⟨cb,co,rfl,hcell⟩:=h k hlt
   go_wp2
   go_round
   case rel =>
    refine ⟨_,k+1,by omega,?_,rfl,by go_num⟩
    show _=sumS (sumH l k) (l.getD k 0)
    rw [← hq.out,List.getD_eq_getElem?_getD,List.getElem?_eq_getElem hlt]
    rfl
   case measure=>simp [intOf]; omega
  ·obtain rfl:k=l.length:=by omega
   have hp:=sumH_pos l l.length
   have e:wrap64 (q.tmod 4096)=(sumL l:Nat):=by
    rw [← hq.out] at hp
    have h1:q.tmod 4096=(sumL l:Nat):=by
     unfold sumL
     rw [← hq.out,Int.tmod_eq_emod_of_nonneg hp]
     omega
    rw [h1]
    have:=sumL_lt l
    unfold wrap64; omega
   have HE:=hiD e
   clear hp e
   go_wp2
   go_ret
   exact ⟨congrArg (fun n=>Ending.returned (.int .i64 n)) HE.out,rfl⟩
abbrev LI (w:World) (a:Option Addr) (x:List Int):Prop:=IIn w a x.length (fun i=>x.getD i 0)
theorem getD_lt {x:List Int} {k:Nat} (h:k < x.length):x.getD k 0=x[k]:=by rw [List.getD_eq_getElem?_getD,List.getElem?_eq_getElem h]; rfl
theorem take_ext {x y:List Int} {k:Nat} (h:x.take k=y.take k) (h1:k < x.length) (h2:k < y.length) (e:x.getD k 0=y.getD k 0):x.take (k+1)=y.take (k+1):=by
 rw [List.take_add_one,List.take_add_one,h,List.getElem?_eq_getElem h1,List.getElem?_eq_getElem h2,← getD_lt h1,← getD_lt h2,e]
theorem lex_drop:∀ {k:Nat} {x y:List Int},x.take k=y.take k→lexL x y=lexL (x.drop k) (y.drop k)
 | 0,_,_,_=>rfl
 | k+1,[],[],_=>rfl
 | k+1,[],_::_,h=>by cases h
 | k+1,_::_,[],h=>by cases h
 | k+1,a::x,b::y,h=>by
  simp only [List.take_succ_cons,List.cons.injEq] at h
  obtain ⟨rfl,h⟩:=h
  show (if a=a then lexL x y else _)=_
  rw [if_pos rfl]
  exact lex_drop h
theorem lex_at {k:Nat} {x y:List Int} (h:x.take k=y.take k) (h1:k < x.length) (h2:k < y.length) (e:x.getD k 0≠y.getD k 0):lexL x y=decide (x.getD k 0 < y.getD k 0):=by
 rw [lex_drop h,List.drop_eq_getElem_cons h1,List.drop_eq_getElem_cons h2,getD_lt h1,getD_lt h2]
 rw [getD_lt h1,getD_lt h2] at e
 show (if x[k]=y[k] then _ else _)=_
 rw [if_neg e]
theorem lex_end {k:Nat} {x y:List Int} (h:x.take k=y.take k) (hk:x.length≤k∨y.length≤k) (hx:k≤x.length) (hy:k≤y.length):lexL x y=decide (x.length < y.length):=by
 rw [lex_drop h]
 rcases hk with hk | hk
 ·rw [List.drop_of_length_le hk]
  cases hd:y.drop k with
  | nil =>
   have:=congrArg List.length hd
   simp only [List.length_drop,List.length_nil] at this
   rw [show decide (x.length < y.length)=false from decide_eq_false (by omega)]
   rfl
  | cons a r =>
   have:=congrArg List.length hd
   simp only [List.length_drop,List.length_cons] at this
   rw [show decide (x.length < y.length)=true from decide_eq_true (by omega)]
   rfl
 ·rw [List.drop_of_length_le hk,show decide (x.length < y.length)=false from decide_eq_false (by omega)]
  cases x.drop k <;> rfl
theorem less_any (a b:Option Addr) (x y:List Int) (c d:Nat) (hn:x.length≤100000) (_hm:y.length≤100000) (w:World) (h:LI w a x) (h':LI w b y) :
  Calls Tryz.prog 125 #[.slice a x.length c,.slice b y.length d] w fun e w'=>e=.returned (.bool (lexL x y))∧Below w.heap.size w w':=by
 go_enter Tryz.func125,Tryz.ntmps125
 go_wp2
 go_loopw [5] (fun i wr=>∃ k:Nat,k≤x.length∧k≤y.length∧Hid (x.take k=y.take k)∧i=.int .i64 k∧Below w.heap.size w wr) (fun i _=>x.length - (intOf i).toNat)
 case atStart=>exact ⟨0,Nat.zero_le _,Nat.zero_le _,rfl,rfl,Below.refl _ _⟩
 case round =>
  obtain ⟨k,hk,hk',ht,rfl,hbr⟩:=hrel
  by_cases hlt:k < x.length
  ·by_cases hlt':k < y.length
   ·obtain ⟨b1,o1,rfl,hc⟩:=h.below hbr k hlt
    obtain ⟨b2,o2,rfl,hc'⟩:=h'.below hbr k hlt'
    by_cases he:x.getD k 0=y.getD k 0
    ·have ht':Hid (x.take (k+1)=y.take (k+1)):=take_ext ht.out hlt hlt' he
     simp only [he] at hc
     clear he
     go_wp2
     go_region
     all_goals go_wp2
     all_goals go_roundw
     case rel=>exact ⟨k+1,by omega,by omega,ht',by go_num,hbr.drew⟩
     case measure=>simp [intOf]; omega
    ·have HE:Hid (lexL x y=decide (x.getD k 0 < y.getD k 0)):=lex_at ht.out hlt hlt' he
     obtain ⟨u,hu⟩:∃ u,x.getD k 0=u:=⟨_,rfl⟩
     obtain ⟨v,hv⟩:∃ v,y.getD k 0=v:=⟨_,rfl⟩
     simp only [hu] at hc
     simp only [hv] at hc'
     rw [hu,hv] at HE he
     clear hu hv
     go_wp2
     go_region
     all_goals go_wp2
     all_goals go_region
     all_goals go_wp2
     all_goals go_ret
     all_goals exact ⟨congrArg (fun b=>Ending.returned (.bool b)) HE.out.symm,hbr.drew.drew⟩
   ·have HE:Hid (lexL x y=decide (x.length < y.length)):=lex_end ht.out (Or.inr (by omega)) hk hk'
    go_wp2
    go_ret
    exact ⟨congrArg (fun b=>Ending.returned (.bool b)) (by rw [HE.out]),hbr⟩
  ·have HE:Hid (lexL x y=decide (x.length < y.length)):=lex_end ht.out (Or.inl (by omega)) hk hk'
   go_wp2
   go_ret
   exact ⟨congrArg (fun b=>Ending.returned (.bool b)) (by rw [HE.out]),hbr⟩
theorem rints_any (a b:Option Addr) (x y:List Int) (c d:Nat) (hn:x.length≤100000) (_hm:y.length≤100000) (w:World) (h:LI w a x) (h':LI w b y) :
  Calls Tryz.prog 25 #[.slice a x.length c,.slice b y.length d] w fun e w'=>e=.returned (.bool (decide (x=y)))∧Below w.heap.size w w':=by
 by_cases hl:x.length=y.length
 rotate_left
 ·have HE:Hid (decide (x=y)=false):=decide_eq_false (fun e=>hl (by rw [e]))
  have hl':¬ (x.length:Int)=y.length:=by omega
  go_enter Tryz.func25,Tryz.ntmps25
  go_wp2
  go_ret
  exact ⟨congrArg (fun b=>Ending.returned (.bool b)) HE.out.symm,Below.refl _ _⟩
 obtain ⟨n,hx⟩:∃ n,x.length=n:=⟨_,rfl⟩
 have hy:y.length=n:=by omega
 have hn':n≤100000:=by omega
 have h1:IIn w a n (fun i=>x.getD i 0):=by rw [← hx]; exact h
 have h2:IIn w b n (fun i=>y.getD i 0):=by rw [← hy]; exact h'
 have HX:Hid (x.length=n):=hx
 have HY:Hid (y.length=n):=hy
 rw [hx,hy]
 clear h h' hx hy hl hn _hm
 go_enter Tryz.func25,Tryz.ntmps25
 go_wp2
 go_loopw [5] (fun i wr=>∃ k:Nat,k≤n∧Hid (x.take k=y.take k)∧i=.int .i64 k∧Below w.heap.size w wr) (fun i _=>n - (intOf i).toNat)
 case atStart=>exact ⟨0,Nat.zero_le _,rfl,rfl,Below.refl _ _⟩
 case round =>
  obtain ⟨k,hk,ht,rfl,hbr⟩:=hrel
  by_cases hlt:k < n
  ·obtain ⟨b1,o1,rfl,hc⟩:=h1.below hbr k hlt
   obtain ⟨b2,o2,rfl,hc'⟩:=h2.below hbr k hlt
   by_cases he:x.getD k 0=y.getD k 0
   ·have ht':Hid (x.take (k+1)=y.take (k+1)):=take_ext ht.out (by rw [HX.out]; exact hlt) (by rw [HY.out]; exact hlt) he
    simp only [he] at hc
    clear he
    go_wp2
    go_region
    all_goals go_wp2
    all_goals go_roundw
    case rel=>exact ⟨k+1,by omega,ht',by go_num,hbr.drew⟩
    case measure=>simp [intOf]; omega
   ·have HE:Hid (decide (x=y)=false):=decide_eq_false (fun e=>he (by rw [e]))
    obtain ⟨u,hu⟩:∃ u,x.getD k 0=u:=⟨_,rfl⟩
    obtain ⟨v,hv⟩:∃ v,y.getD k 0=v:=⟨_,rfl⟩
    simp only [hu] at hc
    simp only [hv] at hc'
    rw [hu,hv] at he
    clear hu hv
    go_wp2
    go_region
    all_goals go_wp2
    all_goals go_ret
    all_goals exact ⟨congrArg (fun b=>Ending.returned (.bool b)) HE.out.symm,hbr.drew⟩
  ·have HE:Hid (decide (x=y)=true):=decide_eq_true (by
    have:=ht.out
    rwa [List.take_of_length_le (by rw [HX.out]; omega),List.take_of_length_le (by rw [HY.out]; omega)] at this)
   go_wp2
   go_ret
   exact ⟨congrArg (fun b=>Ending.returned (.bool b)) HE.out.symm,hbr⟩
abbrev ocV (st:Int) (wa:Option Addr) (wl wc:Nat) (pa:Option Addr) (pl pc:Nat):Value:=.agg #[.int .i64 st,.slice wa wl wc,.slice pa pl pc]
structure OcAt (w:World) (v:Value) (o:Oc):Prop where
 ex:∃ wa wc pa pc,v=ocV o.st wa o.ws.length wc pa o.pr.length pc∧LI w wa o.ws∧LI w pa o.pr
theorem ahead_any (w:World) (u v:Value) (a b:Oc) (hu:OcAt w u a) (hv:OcAt w v b) (h1:a.ws.length≤100000) (h2:b.ws.length≤100000) (h3:a.pr.length≤100000) (h4:b.pr.length≤100000) :
  Calls Tryz.prog 90 #[u,v] w fun e w'=>e=.returned (.bool (aheadO a b))∧Below w.heap.size w w':=by
 obtain ⟨wa,wc,pa,pc,rfl,k1,k2⟩:=hu.ex
 obtain ⟨va,vc,qa,qc,rfl,k3,k4⟩:=hv.ex
 clear hu hv
 obtain ⟨sa,ws,pr⟩:=a
 obtain ⟨sb,vs,qr⟩:=b
 simp only at h1 h2 h3 h4 k1 k2 k3 k4 ⊢
 obtain ⟨UC,hUC⟩:∃ o:Obj,o=.cells #[.int .i64 sa,.slice wa ws.length wc,.slice pa pr.length pc] 67:=⟨_,rfl⟩
 obtain ⟨VC,hVC⟩:∃ o:Obj,o=.cells #[.int .i64 sb,.slice va vs.length vc,.slice qa qr.length qc] 67:=⟨_,rfl⟩
 have HB0:Below w.heap.size w ((w.alloc UC).alloc VC):=((Below.refl _ _).alloc (Nat.le_refl _) _).alloc (by simp) _
 have b1:((w.alloc UC).alloc VC).heap[w.heap.size]? = some UC:=box_later (heap_alloc_new _ _) _
 have b2:((w.alloc UC).alloc VC).heap[w.heap.size+1]? = some VC:=by have:=heap_alloc_new (w.alloc UC) VC; rwa [World.size_alloc] at this
 have HI:Hid (Calls Tryz.prog 25 #[.slice wa ws.length wc,.slice va vs.length vc] ((w.alloc UC).alloc VC) fun e w'=>e=.returned (.bool (decide (ws=vs)))∧Below ((w.alloc UC).alloc VC).heap.size ((w.alloc UC).alloc VC) w'):=rints_any wa va ws vs wc vc h1 h2 _ (IIn.below k1 HB0) (IIn.below k3 HB0)
 have HL1:Hid (∀ W,Below ((w.alloc UC).alloc VC).heap.size ((w.alloc UC).alloc VC) W→Calls Tryz.prog 125 #[.slice wa ws.length wc,.slice va vs.length vc] W fun e w'=>e=.returned (.bool (lexL ws vs))∧Below w.heap.size w w'):=fun W hb=>(less_any wa va ws vs wc vc h1 h2 W (IIn.below (IIn.below k1 HB0) hb) (IIn.below (IIn.below k3 HB0) hb)).mono fun e w' g=>⟨g.1,(HB0.trans (hb.mono HB0.size)).trans (g.2.mono (HB0.trans (hb.mono HB0.size)).size)⟩
 have HL2:Hid (∀ W,Below ((w.alloc UC).alloc VC).heap.size ((w.alloc UC).alloc VC) W→Calls Tryz.prog 125 #[.slice pa pr.length pc,.slice qa qr.length qc] W fun e w'=>e=.returned (.bool (lexL pr qr))∧Below w.heap.size w w'):=fun W hb=>(less_any pa qa pr qr pc qc h3 h4 W (IIn.below (IIn.below k2 HB0) hb) (IIn.below (IIn.below k4 HB0) hb)).mono fun e w' g=>⟨g.1,(HB0.trans (hb.mono HB0.size)).trans (g.2.mono (HB0.trans (hb.mono HB0.size)).size)⟩
 have HC:Hid (∀ W,Below ((w.alloc UC).alloc VC).heap.size ((w.alloc UC).alloc VC) W→(W.cell? ⟨w.heap.size,1,none⟩=some (.slice wa ws.length wc)∧W.cell? ⟨w.heap.size,2,none⟩=some (.slice pa pr.length pc))∧W.cell? ⟨w.heap.size+1,1,none⟩=some (.slice va vs.length vc)∧W.cell? ⟨w.heap.size+1,2,none⟩=some (.slice qa qr.length qc)):=fun W hb=>by
  have k1:=((hb.block _ (by simp; omega)).trans b1).trans (congrArg some hUC)
  have k2:=((hb.block _ (by simp)).trans b2).trans (congrArg some hVC)
  exact ⟨⟨box_cell k1 rfl,box_cell k1 rfl⟩,box_cell k2 rfl,box_cell k2 rfl⟩
 have HBH:=hiD HB0
 rw [hUC,hVC] at HI HL1 HL2 HC HBH
 clear k1 k2 k3 k4 HB0 b1 b2 hUC hVC h1 h2 h3 h4
 by_cases hst:sa=sb
 rotate_left
 ·have HE:Hid (aheadO ⟨sa,ws,pr⟩ ⟨sb,vs,qr⟩=decide (sa < sb)):=if_pos hst
  go_enter Tryz.func90,Tryz.ntmps90
  go_wp2
  go_ret
  exact ⟨congrArg (fun b=>Ending.returned (.bool b)) HE.out.symm,HBH.out⟩
 subst hst
 by_cases hws:ws=vs
 ·have HE:Hid (aheadO ⟨sa,ws,pr⟩ ⟨sa,vs,qr⟩=lexL pr qr):=by
   show _=_
   unfold aheadO
   rw [if_neg (by simp),if_neg (by simpa using hws)]
  have HD:Hid (decide (ws=vs)=true):=decide_eq_true hws
  clear hws
  go_enter Tryz.func90,Tryz.ntmps90
  go_wp2_with (fail)
  refine Calls.mono HI.out ?_
  rintro e w1 ⟨rfl,hb1⟩
  rw [HD.out]
  obtain ⟨⟨_,c2⟩,_,c4⟩:=HC.out w1 hb1
  have HL:=hiD (HL2.out w1 hb1)
  clear hb1 HI HL1 HL2 HC
  go_wp2_with (fail)
  refine Calls.mono HL.out ?_
  rintro e w2 ⟨rfl,hb2⟩
  go_wp2
  go_ret
  exact ⟨congrArg (fun b=>Ending.returned (.bool b)) HE.out.symm,hb2⟩
 ·have HE:Hid (aheadO ⟨sa,ws,pr⟩ ⟨sa,vs,qr⟩=lexL ws vs):=by
   show _=_
   unfold aheadO
   rw [if_neg (by simp),if_pos hws]
  have HD:Hid (decide (ws=vs)=false):=decide_eq_false hws
  clear hws
  go_enter Tryz.func90,Tryz.ntmps90
  go_wp2_with (fail)
  refine Calls.mono HI.out ?_
  rintro e w1 ⟨rfl,hb1⟩
  rw [HD.out]
  obtain ⟨⟨c1,_⟩,c3,_⟩:=HC.out w1 hb1
  have HL:=hiD (HL1.out w1 hb1)
  clear hb1 HI HL1 HL2 HC
  go_wp2_with (fail)
  refine Calls.mono HL.out ?_
  rintro e w2 ⟨rfl,hb2⟩
  go_wp2
  go_ret
  exact ⟨congrArg (fun b=>Ending.returned (.bool b)) HE.out.symm,hb2⟩
end
section
open Go.RowKit
def OsIn (w:World) (a:Option Addr) (l:List Oc):Prop:=∀ i,i < l.length→∃ b o wa wc pa pc,a=some ⟨b,o,none⟩∧w.cell? ⟨b,o+i*3,none⟩=some (.int .i64 (l.getD i default).st)∧w.cell? ⟨b,o+i*3+1,none⟩=some (.slice wa (l.getD i default).ws.length wc)∧w.cell? ⟨b,o+i*3+2,none⟩=some (.slice pa (l.getD i default).pr.length pc)∧LI w wa (l.getD i default).ws∧LI w pa (l.getD i default).pr
theorem OsIn.below {w w':World} {a:Option Addr} {l:List Oc} (h:OsIn w a l) (hb:Below w.heap.size w w'):OsIn w' a l:=fun i hi=>by
 obtain ⟨b,o,wa,wc,pa,pc,h1,h2,h3,h4,h5,h6⟩:=h i hi
 exact ⟨b,o,wa,wc,pa,pc,h1,(hb.cell (lt_of_cell h2)).trans h2,(hb.cell (lt_of_cell h3)).trans h3,(hb.cell (lt_of_cell h4)).trans h4,IIn.below h5 hb,IIn.below h6 hb⟩
def OBd (l:List Oc):Prop:=l.length≤100000∧∀ o,o∈l→o.ws.length≤100000∧o.pr.length≤100000
theorem OBd.at {l:List Oc} (h:OBd l) {i:Nat} (hi:i < l.length):(l.getD i default).ws.length≤100000∧(l.getD i default).pr.length≤100000:=by
 refine h.2 _ ?_
 rw [List.getD_eq_getElem?_getD,List.getElem?_eq_getElem hi]
 exact List.getElem_mem hi
theorem otake_ext {x y:List Oc} {k:Nat} (h:x.take k=y.take k) (h1:k < x.length) (h2:k < y.length) (e:x.getD k default=y.getD k default):x.take (k+1)=y.take (k+1):=by
 rw [List.getD_eq_getElem?_getD,List.getD_eq_getElem?_getD,List.getElem?_eq_getElem h1,List.getElem?_eq_getElem h2] at e
 rw [List.take_add_one,List.take_add_one,h,List.getElem?_eq_getElem h1,List.getElem?_eq_getElem h2,show x[k]=y[k] from e]
theorem rsame_any (a b:Option Addr) (x y:List Oc) (c d:Nat) (hx:OBd x) (hy:OBd y) (w:World) (h:OsIn w a x) (h':OsIn w b y) :
  Calls Tryz.prog 9 #[.slice a x.length c,.slice b y.length d] w fun e w'=>e=.returned (.bool (decide (x=y)))∧Below w.heap.size w w':=by
 have hn:=hx.1
 have hm:=hy.1
 by_cases hl:x.length=y.length
 rotate_left
 ·have HE:Hid (decide (x=y)=false):=decide_eq_false (fun e=>hl (by rw [e]))
  have hl':¬ (x.length:Int)=y.length:=by omega
  go_enter Tryz.func9,Tryz.ntmps9
  go_wp2
  go_ret
  exact ⟨congrArg (fun b=>Ending.returned (.bool b)) HE.out.symm,Below.refl _ _⟩
 obtain ⟨n,hxl⟩:∃ n,x.length=n:=⟨_,rfl⟩
 have hyl:y.length=n:=by omega
 have hn':n≤100000:=by omega
 have HX:Hid (OBd x∧OsIn w a x∧x.length=n):=⟨hx,h,hxl⟩
 have HY:Hid (OBd y∧OsIn w b y∧y.length=n):=⟨hy,h',hyl⟩
 rw [hxl,hyl]
 clear h h' hx hy hl hn hm hxl hyl
 go_enter Tryz.func9,Tryz.ntmps9
 go_wp2
 go_loopw [5] (fun i wr=>∃ k:Nat,k≤n∧Hid (x.take k=y.take k)∧i=.int .i64 k∧Below w.heap.size w wr) (fun i _=>n - (intOf i).toNat)
 case atStart=>exact ⟨0,Nat.zero_le _,rfl,rfl,Below.refl _ _⟩
 case round =>
  obtain ⟨k,hk,ht,rfl,hbr⟩:=hrel
  by_cases hlt:k < n
  ·obtain ⟨x1,x2,x3⟩:=HX.out
   obtain ⟨y1,y2,y3⟩:=HY.out
   have hu1:=x1.at (i:=k) (by omega)
   have hv1:=y1.at (i:=k) (by omega)
   obtain ⟨b1,o1,wa,wc,pa,pc,rfl,c0,c1,c2,l1,l2⟩:=x2.below hbr k (by omega)
   obtain ⟨b2,o2,va,vc,qa,qc,rfl,d0,d1,d2,m1,m2⟩:=y2.below hbr k (by omega)
   have HT:Hid (x.getD k default=y.getD k default→x.take (k+1)=y.take (k+1)):=fun e=>otake_ext ht.out (by omega) (by omega) e
   have HF:Hid (x.getD k default≠y.getD k default→decide (x=y)=false):=fun e=>decide_eq_false (fun e2=>e (by rw [e2]))
   obtain ⟨u,hu⟩:∃ u,x.getD k default=u:=⟨_,rfl⟩
   obtain ⟨v,hv⟩:∃ v,y.getD k default=v:=⟨_,rfl⟩
   rw [hu] at c0 c1 c2 l1 l2 HT HF hu1
   rw [hv] at d0 d1 d2 m1 m2 HT HF hv1
   clear hu hv x1 x2 x3 y1 y2 y3
   obtain ⟨us,uw,up⟩:=u
   obtain ⟨vs,vw,vp⟩:=v
   simp only at c0 c1 c2 l1 l2 d0 d1 d2 m1 m2 hu1 hv1
   have HI1:Hid (∀ W,Below wr.heap.size wr W→Calls Tryz.prog 25 #[.slice wa uw.length wc,.slice va vw.length vc] W fun e w'=>e=.returned (.bool (decide (uw=vw)))∧Below wr.heap.size wr w'):=fun W hb=>(rints_any wa va uw vw wc vc hu1.1 hv1.1 W (IIn.below l1 hb) (IIn.below m1 hb)).mono fun e w' g=>⟨g.1,hb.trans (g.2.mono hb.size)⟩
   have HI2:Hid (∀ W,Below wr.heap.size wr W→Calls Tryz.prog 25 #[.slice pa up.length pc,.slice qa vp.length qc] W fun e w'=>e=.returned (.bool (decide (up=vp)))∧Below wr.heap.size wr w'):=fun W hb=>(rints_any pa qa up vp pc qc hu1.2 hv1.2 W (IIn.below l2 hb) (IIn.below m2 hb)).mono fun e w' g=>⟨g.1,hb.trans (g.2.mono hb.size)⟩
   clear l1 l2 m1 m2 hu1 hv1
   go_wp2_with (fail)
   refine region_tail 10 (by kernel_rfl) (by kernel_rfl) ?_
   simp only [List.take_succ_cons,List.take_zero,List.drop_succ_cons,List.drop_zero]
   repeat still_step
   refine wpStill_nil ?_
   go_wp2_with (fail)
   refine Calls.mono (HI1.out _ (Below.refl _ _).drew) ?_
   rintro e w1 ⟨rfl,hb1⟩
   have e0:=(hb1.cell (lt_of_cell c0)).trans c0
   have e1:=(hb1.cell (lt_of_cell c2)).trans c2
   have f0:=(hb1.cell (lt_of_cell d0)).trans d0
   have f1:=(hb1.cell (lt_of_cell d2)).trans d2
   go_wp2_with (fail)
   refine region_tail 10 (by kernel_rfl) (by kernel_rfl) ?_
   simp only [List.take_succ_cons,List.take_zero,List.drop_succ_cons,List.drop_zero]
   repeat still_step
   refine wpStill_nil ?_
   go_wp2_with (fail)
   refine Calls.mono (HI2.out _ hb1.drew) ?_
   rintro e w2 ⟨rfl,hb2⟩
   have g0:=(hb2.cell (lt_of_cell c0)).trans c0
   have g1:=(hb2.cell (lt_of_cell d0)).trans d0
   have hB2:Below w.heap.size w w2:=hbr.trans (hb2.mono hbr.size)
   clear c0 c1 c2 d0 d1 d2 e0 e1 f0 f1 hb1 hb2 HI1 HI2
   by_cases q1:us=vs
   ·subst q1
    by_cases q2:uw=vw
    ·subst q2
     by_cases q3:up=vp
     ·subst q3
      have ht':Hid (x.take (k+1)=y.take (k+1)):=HT.out rfl
      clear HT HF
      go_wp2
      go_region
      all_goals go_wp2
      all_goals go_roundw
      case rel=>exact ⟨k+1,by omega,ht',by go_num,hB2.drew⟩
      case measure=>simp [intOf]; omega
     ·have HE:Hid (decide (x=y)=false):=HF.out (by simpa using q3)
      rw [decide_eq_false q3]
      clear HT HF q3
      go_wp2
      go_region
      all_goals go_wp2
      all_goals go_ret
      all_goals exact ⟨congrArg (fun b=>Ending.returned (.bool b)) HE.out.symm,hB2.drew⟩
    ·have HE:Hid (decide (x=y)=false):=HF.out (fun e=>q2 (by simp only [Oc.mk.injEq] at e; exact e.2.1))
     rw [decide_eq_false q2]
     clear HT HF q2
     go_wp2
     go_region
     all_goals go_wp2
     all_goals go_ret
     all_goals exact ⟨congrArg (fun b=>Ending.returned (.bool b)) HE.out.symm,hB2.drew⟩
   ·have HE:Hid (decide (x=y)=false):=HF.out (fun e=>q1 (by simp only [Oc.mk.injEq] at e; exact e.1))
    have q1':(us != vs)=true:=by simpa using q1
    obtain ⟨bw,hbw⟩:∃ b,decide (uw=vw)=b:=⟨_,rfl⟩
    obtain ⟨bp,hbp⟩:∃ b,decide (up=vp)=b:=⟨_,rfl⟩
    rw [hbw,hbp]
    clear HT HF q1 hbw hbp HX HY ht
    go_wp2
    go_region
    all_goals go_wp2
    all_goals go_ret
    all_goals exact ⟨congrArg (fun b=>Ending.returned (.bool b)) HE.out.symm,hB2.drew⟩
  ·have HE:Hid (decide (x=y)=true):=decide_eq_true (by
    have:=ht.out
    rwa [List.take_of_length_le (by rw [HX.out.2.2]; omega),List.take_of_length_le (by rw [HY.out.2.2]; omega)] at this)
   go_wp2
   go_ret
   exact ⟨congrArg (fun b=>Ending.returned (.bool b)) HE.out.symm,hbr⟩
end
end Go.Proofs.YtelckcpjmekgcacGreatDoor
