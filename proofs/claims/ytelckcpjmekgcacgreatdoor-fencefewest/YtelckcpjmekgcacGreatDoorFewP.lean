import Derived.Test.YtelckcpjmekgcacGreatDoorFRew
import Derived.Test.YtelckcpjmekgcacGreatDoorCheckR2
namespace Go.Proofs.YtelckcpjmekgcacGreatDoor
set_option maxHeartbeats 3200000
set_option maxRecDepth 100000
section
open Go.RowKit
theorem new_fit {n m lk rg:Nat} {L:Nat→Nat} {X:Nat→Nat→Nat→Int} (hc:COk n L X m lk rg) (b:Nat→Nat→List I4) (hb:∀ t i,t < n→i < L t→∀ x,x∈b t i→x=ordAt X t i∨x=fenceI) (hfit:∀ t i,t < n→i < L t → -9223372036854775808≤X t i 2∧X t i 2≤9223372036854775807) (hl:∀ t,t < n→lenR b L t≤1000):∀ t i,t < n→i < lenR b L t → -9223372036854775808≤numR b L t i 2∧numR b L t i 2≤9223372036854775807:=fun t i ht hi=>by
 have hi':i < (codeR (b t) (L t)).length:=hi
 obtain ⟨y,hy⟩:∃ y,(codeR (b t) (L t)).getD i fenceI=y:=⟨_,rfl⟩
 have hmem:y∈codeR (b t) (L t):=by
  rw [← hy,List.getD_eq_getElem?_getD,List.getElem?_eq_getElem hi']
  exact List.getElem_mem _
 have hN:numR b L t i 2=y.2.2.1:=by
  unfold numR nth4
  rw [hy]
  rfl
 rw [hN]
 obtain ⟨x,hx,rfl⟩:=List.mem_map.mp hmem
 obtain ⟨k,hk,hm⟩:=raw_mem hx
 have hx':=hb t k ht hk x hm
 have hled:=new_led hc ht hk hx'
 have e0:(ledO (plR (b t)) x).2.2.1=if x.1=15 then (plR (b t) x.2.2.1.toNat:Int) else x.2.2.1:=rfl
 rw [e0]
 by_cases e:x.1=15
 ·rw [if_pos e]
  have h1:=hled.2.2 e
  have h2:plR (b t) x.2.2.1.toNat≤plR (b t) (L t):=pl_mono (by omega)
  have h3:=hl t ht
  unfold lenR at h3
  rw [code_len] at h3
  omega
 ·rw [if_neg e]
  rcases hx' with rfl | rfl
  ·exact hfit t k ht hk
  ·show -9223372036854775808≤(0:Int)∧(0:Int)≤9223372036854775807
   omega
theorem sis_own2 {w:World} {B:Nat} {a:Option Addr} {c:Nat} {l:List Int} (h:w.ownsRow B 3 1 (.slice a l.length c) l.length (intsV l)):SIs w a l∧(a=none→l=[]∧c=0):=by
 refine ⟨fun k hk=>?_,fun e=>?_⟩
 ·obtain ⟨g,cap,e,hg,_⟩:=fam_block h (by omega)
  simp only [Value.slice.injEq] at e
  refine ⟨g,0,e.1,?_⟩
  rw [Nat.zero_add]
  exact fam_cell h hg (intsV_at hk)
 ·subst e
  rcases h.2 with ⟨e,_⟩ | ⟨g,cap,cur,e,_⟩
  ·simp only [Value.slice.injEq,true_and] at e
   exact ⟨List.length_eq_zero_iff.mp e.1,e.2⟩
  ·simp at e
theorem new_open {w U V:World} {n:Nat} {words:List Int} {lk rg:Int} {b:Nat→Nat→List I4} {L:Nat→Nat} {va:Option Addr} {vc:Nat} {ua:Option Addr} {uc:Nat} (hN:NewQ w n words lk rg b L (.returned (.agg #[.slice va n vc,.slice ua words.length uc,.int .i64 lk,.int .i64 rg])) U) (hb:Below U.heap.size U V) (hn:n≤4) (hl:∀ t,t < n→lenR b L t≤1000):(∃ A C,PIn V va n A (lenR b L) C (numR b L))∧SIs V ua words∧(ua=none→words=[]∧uc=0):=by
 obtain ⟨va',vc',ua',uc',tv,he,h1,h2,h3,_⟩:=hN.below hb
 simp only [Ending.returned.injEq,Value.agg.injEq,Array.mk.injEq,List.cons.injEq,Value.slice.injEq,true_and,and_true] at he
 obtain ⟨⟨rfl,rfl⟩,rfl,rfl⟩:=he
 obtain ⟨ca',cc',A',C',e1,hpin⟩:=new_pin h1 h2 (by omega) (fun t ht=>by have:=hl t ht; omega)
 simp only [Value.slice.injEq,true_and] at e1
 obtain ⟨rfl,rfl⟩:=e1
 exact ⟨⟨A',C',hpin⟩,sis_own2 h3⟩
end
section
open Go.RowKit
abbrev Pl:=Nat × Nat
def plT (X:Nat→Nat→Nat→Int) (t:Nat):Nat→List Pl
 | 0=>[]
 | i+1=>plT X t i++(if wtO (X t i 0)=true then [(t,i)] else [])
def plA (L:Nat→Nat) (X:Nat→Nat→Nat→Int):Nat→List Pl
 | 0=>[]
 | t+1=>plA L X t++plT X t (L t)
theorem plT_mem {X:Nat→Nat→Nat→Int} {t u j:Nat}:∀ {i:Nat},(u,j)∈plT X t i↔u=t∧j < i∧wtO (X t j 0)=true
 | 0=>by simp [plT]
 | i+1=>by
  rw [plT,List.mem_append,plT_mem]
  constructor
  ·rintro (⟨h1,h2,h3⟩ | h)
   ·exact ⟨h1,by omega,h3⟩
   ·split at h
    ·rename_i hw
     simp only [List.mem_singleton,Prod.mk.injEq] at h
     obtain ⟨rfl,rfl⟩:=h
     exact ⟨rfl,by omega,hw⟩
    ·cases h
  ·rintro ⟨rfl,h2,h3⟩
   by_cases e:j=i
   ·subst e
    exact Or.inr (by rw [if_pos h3]; simp)
   ·exact Or.inl ⟨rfl,by omega,h3⟩
theorem plA_mem {L:Nat→Nat} {X:Nat→Nat→Nat→Int} {u j:Nat}:∀ {n:Nat},(u,j)∈plA L X n↔u < n∧j < L u∧wtO (X u j 0)=true
 | 0=>by simp [plA]
 | n+1=>by
  rw [plA,List.mem_append,plA_mem,plT_mem]
  constructor
  ·rintro (⟨h1,h2,h3⟩ | ⟨rfl,h2,h3⟩)
   ·exact ⟨by omega,h2,h3⟩
   ·exact ⟨by omega,h2,h3⟩
  ·rintro ⟨h1,h2,h3⟩
   by_cases e:u=n
   ·subst e; exact Or.inr ⟨rfl,h2,h3⟩
   ·exact Or.inl ⟨by omega,h2,h3⟩
def RiseP (a b:Pl):Prop:=a.1 < b.1∨a.1=b.1∧a.2 < b.2
theorem plT_rise {X:Nat→Nat→Nat→Int} {t:Nat}:∀ (i:Nat),(plT X t i).Pairwise RiseP
 | 0=>List.Pairwise.nil
 | i+1=>by
  rw [plT]
  refine List.pairwise_append.2 ⟨plT_rise i,?_,?_⟩
  ·split
   ·exact List.pairwise_singleton _ _
   ·exact List.Pairwise.nil
  ·rintro ⟨u,j⟩ ha b hb
   have h1:=plT_mem.1 ha
   split at hb
   ·rw [List.mem_singleton.1 hb]
    exact Or.inr ⟨h1.1,h1.2.1⟩
   ·cases hb
theorem plA_rise {L:Nat→Nat} {X:Nat→Nat→Nat→Int}:∀ (n:Nat),(plA L X n).Pairwise RiseP
 | 0=>List.Pairwise.nil
 | n+1=>by
  rw [plA]
  refine List.pairwise_append.2 ⟨plA_rise n,plT_rise _,?_⟩
  rintro ⟨u,j⟩ ha ⟨u',j'⟩ hb
  have h1:=plA_mem.1 ha
  have h2:=plT_mem.1 hb
  exact Or.inl (by show u < u'; omega)
theorem plT_le {X:Nat→Nat→Nat→Int} {t:Nat}:∀ (i:Nat),(plT X t i).length≤i
 | 0=>Nat.le_refl _
 | i+1=>by
  rw [plT,List.length_append]
  have:=plT_le (X:=X) (t:=t) i
  split <;> simp <;> omega
theorem plA_le {L:Nat→Nat} {X:Nat→Nat→Nat→Int} {m:Nat}:∀ (n:Nat),(∀ t,t < n→L t≤m)→(plA L X n).length≤n*m
 | 0,_=>by simp [plA]
 | n+1,h=>by
  rw [plA,List.length_append,Nat.succ_mul]
  have h1:=plA_le n (fun t ht=>h t (by omega)) (X:=X)
  have h2:=plT_le (X:=X) (t:=n) (L n)
  have h3:=h n (by omega)
  omega
def chooseL:Nat→List Pl→List (List Pl)
 | 0,_=>[[]]
 | _+1,[]=>[]
 | k+1,x::l=>(chooseL k l).map (fun s=>x::s)++chooseL (k+1) l
def setsF (l:List Pl):Nat→Nat→List (List Pl)
 | 0,_=>[]
 | f+1,k=>chooseL k l++setsF l f (k+1)
def setsL (l:List Pl):List (List Pl):=setsF l (l.length+1) 0
def bitS:List Pl→Nat→List Pl
 | [],_=>[]
 | x::l,s=>(if s.testBit l.length=true then [x] else [])++bitS l s
def downL (l:List Pl):Nat→List (List Pl)
 | 0=>[]
 | s+1=>bitS l s::downL l s
def subL:List Pl→List (List Pl)
 | []=>[[]]
 | x::l=>(subL l).map (fun s=>x::s)++subL l
theorem sub_choose:∀ (l:List Pl) (k:Nat),(subL l).filter (fun s=>decide (s.length=k))=chooseL k l
 | [],0=>rfl
 | [],k+1=>rfl
 | x::l,0=>by
  rw [subL,List.filter_append,sub_choose l 0,List.filter_eq_nil_iff.2]
  ·simp [chooseL]
  ·intro s hs
   obtain ⟨s',_,rfl⟩:=List.mem_map.1 hs
   simp
 | x::l,k+1=>by
  rw [subL,List.filter_append,sub_choose l (k+1),chooseL,← sub_choose l k,List.filter_map]
  congr 2
  apply List.filter_congr
  intro s _
  simp
theorem bit_add:∀ (l:List Pl) (j m:Nat),l.length≤m→bitS l (2 ^ m+j)=bitS l j
 | [],_,_,_=>rfl
 | x::l,j,m,h=>by
  rw [bitS,bitS,bit_add l j m (by simp at h; omega),Nat.testBit_two_pow_add_gt (by simp at h; omega)]
theorem down_low (x:Pl) (l:List Pl):∀ (j:Nat),j≤2 ^ l.length→downL (x::l) j=downL l j
 | 0,_=>rfl
 | j+1,h=>by
  rw [downL,downL,down_low x l j (by omega),bitS,Nat.testBit_lt_two_pow (by omega:j < 2 ^ l.length)]
  rfl
theorem down_high (x:Pl) (l:List Pl):∀ (j:Nat),j≤2 ^ l.length→downL (x::l) (2 ^ l.length+j)=(downL l j).map (fun s=>x::s)++downL l (2 ^ l.length)
 | 0,_=>by
  rw [Nat.add_zero,down_low x l _ (Nat.le_refl _)]
  rfl
 | j+1,h=>by
  rw [← Nat.add_assoc,downL,down_high x l j (by omega),downL,List.map_cons,List.cons_append,bitS,Nat.testBit_two_pow_add_eq,Nat.testBit_lt_two_pow (by omega:j < 2 ^ l.length),bit_add l j _ (Nat.le_refl _)]
  rfl
theorem down_sub:∀ (l:List Pl),downL l (2 ^ l.length)=subL l
 | []=>rfl
 | x::l=>by
  have h:=down_high x l (2 ^ l.length) (Nat.le_refl _)
  rw [List.length_cons,Nat.pow_succ,Nat.mul_two,h,down_sub l,subL]
def remL (l:List Pl) (k s:Nat):List (List Pl):=(downL l s).filter (fun s=>decide (s.length=k))
theorem rem_all (l:List Pl) (k:Nat):remL l k (2 ^ l.length)=chooseL k l:=by
 unfold remL
 rw [down_sub,sub_choose]
theorem rem_yes {l:List Pl} {k s:Nat} (h:(bitS l s).length=k):remL l k (s+1)=bitS l s::remL l k s:=by
 unfold remL
 rw [downL,List.filter_cons_of_pos (by simpa using h)]
theorem rem_no {l:List Pl} {k s:Nat} (h:(bitS l s).length≠k):remL l k (s+1)=remL l k s:=by
 unfold remL
 rw [downL,List.filter_cons_of_neg (by simpa using h)]
theorem choose_sub:∀ (k:Nat) (l:List Pl) (s:List Pl),s∈chooseL k l→s.Sublist l
 | 0,l,s,h=>by
  rw [chooseL] at h
  have e:s=[]:=List.mem_singleton.1 h
  rw [e]
  exact List.nil_sublist _
 | _+1,[],_,h=>by cases h
 | k+1,x::l,s,h=>by
  rcases List.mem_append.1 h with h | h
  ·obtain ⟨s',h',rfl⟩:=List.mem_map.1 h
   exact (choose_sub k l s' h').cons_cons x
  ·exact (choose_sub (k+1) l s h).cons x
theorem sets_sub (l:List Pl):∀ (f k:Nat) (s:List Pl),s∈setsF l f k→s.Sublist l
 | 0,_,_,h=>by cases h
 | f+1,k,s,h=>by
  rcases List.mem_append.1 h with h | h
  ·exact choose_sub k l s h
  ·exact sets_sub l f (k+1) s h
theorem sets_nil (l:List Pl):setsL l=[]::setsF l l.length 1:=by
 unfold setsL
 rw [setsF,chooseL]
 rfl
def setB (S:List Pl):Nat→Nat→Bool:=fun t i=>decide ((t,i)∈S)
def bSet (X:Nat→Nat→Nat→Int) (S:List Pl):Nat→Nat→List I4:=fun t i=>bWith (setB S t i) (ordAt X t i)
def ToldS (n:Nat) (L:Nat→Nat) (X:Nat→Nat→Nat→Int) (words:List Int) (lk rg:Nat) (S:List Pl) (full:Bool) (l:List Oc):Prop :=
 Told (nxX (lenR (bSet X S) L) (numR (bSet X S) L) 1) (outsX (lenR (bSet X S) L) (numR (bSet X S) L) 1) (beginX n words lk rg) 4000 full l
inductive FewR (T:List Pl→Bool→List Oc→Prop) (sc:List Oc):List (List Pl)→List Pl→Int→Prop
 | done:FewR T sc [] [] 0
 | full {S:List Pl} {R:List (List Pl)} {l:List Oc}:T S true l→FewR T sc (S::R) [] 10
 | hit {S:List Pl} {R:List (List Pl)}:T S false sc→FewR T sc (S::R) S 0
 | next {S:List Pl} {R:List (List Pl)} {l:List Oc} {P:List Pl} {z:Int}:T S false l→l≠sc→FewR T sc R P z→FewR T sc (S::R) P z
theorem FewR.same {T:List Pl→Bool→List Oc→Prop} (hT:∀ S f1 f2 l1 l2,T S f1 l1→T S f2 l2→f1=f2∧(f1=false→l1=l2)) {sc:List Oc}:∀ {Q:List (List Pl)} {P P':List Pl} {z z':Int},FewR T sc Q P z→FewR T sc Q P' z'→P=P'∧z=z'
 | _,_,_,_,_,.done,h=>by cases h; exact ⟨rfl,rfl⟩
 | _,_,_,_,_,.full h1,h=>by
  cases h with
  | full _=>exact ⟨rfl,rfl⟩
  | hit h2=>exact absurd (hT _ _ _ _ _ h1 h2).1 (by decide)
  | next h2 _ _=>exact absurd (hT _ _ _ _ _ h1 h2).1 (by decide)
 | _,_,_,_,_,.hit h1,h=>by
  cases h with
  | full h2=>exact absurd (hT _ _ _ _ _ h1 h2).1 (by decide)
  | hit h2=>exact ⟨rfl,rfl⟩
  | next h2 h3 _=>exact absurd ((hT _ _ _ _ _ h1 h2).2 rfl).symm h3
 | _,_,_,_,_,.next h1 h3 h4,h=>by
  cases h with
  | full h2=>exact absurd (hT _ _ _ _ _ h1 h2).1 (by decide)
  | hit h2=>exact absurd ((hT _ _ _ _ _ h1 h2).2 rfl) h3
  | next _ _ h5=>exact h4.same hT h5
theorem toldS_same {n:Nat} {L:Nat→Nat} {X:Nat→Nat→Nat→Int} {words:List Int} {lk rg:Nat}:∀ S f1 f2 l1 l2,ToldS n L X words lk rg S f1 l1→ToldS n L X words lk rg S f2 l2→f1=f2∧(f1=false→l1=l2):=fun _ _ _ _ _ h1 h2=>told_same h1 h2
def FewQ (n:Nat) (L:Nat→Nat) (X:Nat→Nat→Nat→Int) (words:List Int) (lk rg:Nat) (P:List Pl) (z:Int):Prop :=
 (6 < (plA L X n).length∧P=[]∧z=1)∨((plA L X n).length≤6∧((∃ l,Told (nxX L X 0) (outsX L X 0) (beginX n words lk rg) 4000 true l∧P=[]∧z=10)∨∃ sc,Told (nxX L X 0) (outsX L X 0) (beginX n words lk rg) 4000 false sc∧FewR (ToldS n L X words lk rg) sc (setsL (plA L X n)) P z))
theorem FewQ.same {n:Nat} {L:Nat→Nat} {X:Nat→Nat→Nat→Int} {words:List Int} {lk rg:Nat} {P P':List Pl} {z z':Int} (h:FewQ n L X words lk rg P z) (h':FewQ n L X words lk rg P' z'):P=P'∧z=z':=by
 rcases h with ⟨h1,h2,h3⟩ | ⟨h1,h⟩ <;> rcases h' with ⟨h1',h2',h3'⟩ | ⟨h1',h'⟩
 ·exact ⟨h2.trans h2'.symm,h3.trans h3'.symm⟩
 ·omega
 ·omega
 ·rcases h with ⟨l,h2,h3,h4⟩ | ⟨sc,h2,h3⟩ <;> rcases h' with ⟨l',h2',h3',h4'⟩ | ⟨sc',h2',h3'⟩
  ·exact ⟨h3.trans h3'.symm,h4.trans h4'.symm⟩
  ·exact absurd (told_same h2 h2').1 (by decide)
  ·exact absurd (told_same h2 h2').1 (by decide)
  ·obtain rfl:=(told_same h2 h2').2 rfl
   exact h3.same toldS_same h3'
def NormP (n:Nat) (L:Nat→Nat) (X:Nat→Nat→Nat→Int):Prop:=(∀ t,n≤t→L t=0)∧(∀ t i q,L t≤i→X t i q=nth4 fenceI q)∧∀ t i q,4≤q→X t i q=X t i 3
def normL (n:Nat) (L:Nat→Nat):Nat→Nat:=fun t=>if t < n then L t else 0
def normX (n:Nat) (L:Nat→Nat) (X:Nat→Nat→Nat→Int):Nat→Nat→Nat→Int:=fun t i q=>if i < normL n L t then nth4 (ordAt X t i) q else nth4 fenceI q
theorem norm_is (n:Nat) (L:Nat→Nat) (X:Nat→Nat→Nat→Int):NormP n (normL n L) (normX n L X):=by
 refine ⟨fun t h=>if_neg (by omega),fun t i q h=>if_neg (by omega),fun t i q h=>?_⟩
 unfold normX
 have e:∀ x,nth4 x q=nth4 x 3:=fun x=>by
  unfold nth4
  rw [if_neg (by omega),if_neg (by omega),if_neg (by omega)]
  rfl
 rw [e,e]
theorem norm_at {n:Nat} {L:Nat→Nat} {X:Nat→Nat→Nat→Int} {t i:Nat} (ht:t < n) (hi:i < normL n L t):normL n L t=L t∧normX n L X t i 0=X t i 0∧normX n L X t i 1=X t i 1∧normX n L X t i 2=X t i 2∧normX n L X t i 3=X t i 3 :=
 ⟨if_pos ht,if_pos hi,if_pos hi,if_pos hi,if_pos hi⟩
theorem set_none {n:Nat} {L:Nat→Nat} {X:Nat→Nat→Nat→Int} {m lk rg:Nat} (hn:NormP n L X) (hc:COk n L X m lk rg):lenR (bSet X []) L=L∧numR (bSet X []) L=X:=by
 have hb:∀ t i,bSet X [] t i=[ordAt X t i]:=fun t i=>rfl
 have hpl:∀ t i,plR (bSet X [] t) i=i:=fun t i=>by
  induction i with
  | zero=>rfl
  | succ i ih=>rw [plR,ih,hb]; rfl
 have hl:lenR (bSet X []) L=L:=by
  funext t
  unfold lenR
  rw [code_len,hpl]
 refine ⟨hl,?_⟩
 funext t i q
 by_cases h:i < L t
 ·have ht:t < n:=by
   by_cases e:t < n
   ·exact e
   ·have:=hn.1 t (by omega)
    omega
  have h0:=code_at (b:=bSet X [] t) (i:=i) (k:=0) (L:=L t) (by rw [hb]; simp) h fenceI
  rw [hpl,Nat.add_zero,hb] at h0
  unfold numR
  rw [h0]
  have hx:ledO (plR (bSet X [] t)) (ordAt X t i)=ordAt X t i:=by
   have ho:=hc.ord t i ht h
   unfold ledO
   rw [hpl,hpl]
   have e1:(if (ordAt X t i).1=14 then ((ordAt X t i).2.1.toNat:Int) else (ordAt X t i).2.1)=(ordAt X t i).2.1:=by
    split
    ·rename_i e
     have e':X t i 0=14:=e
     rw [e'] at ho
     exact Int.toNat_of_nonneg (ok_jump ho).1
    ·rfl
   have e2:(if (ordAt X t i).1=15 then ((ordAt X t i).2.2.1.toNat:Int) else (ordAt X t i).2.2.1)=(ordAt X t i).2.2.1:=by
    split
    ·rename_i e
     have e':X t i 0=15:=e
     rw [e'] at ho
     exact Int.toNat_of_nonneg (ok_zero ho).2.1
    ·rfl
   rw [e1,e2]
  have e3:([ordAt X t i].getD 0 fenceI)=ordAt X t i:=rfl
  rw [e3,hx]
  unfold nth4
  split
  ·rename_i e; subst e; rfl
  ·split
   ·rename_i e; subst e; rfl
   ·split
    ·rename_i e; subst e; rfl
    ·rename_i h1 h2 h3
     by_cases e:q=3
     ·subst e; rfl
     ·rw [hn.2.2 t i q (by omega)]; rfl
 ·unfold numR
  rw [List.getD_eq_getElem?_getD,List.getElem?_eq_none (by rw [code_len,hpl]; omega)]
  exact (hn.2.1 t i q (by omega)).symm
theorem bSet_in (X:Nat→Nat→Nat→Int) (S:List Pl) (t i:Nat) (x:I4) (h:x∈bSet X S t i):x=ordAt X t i∨x=fenceI:=by
 unfold bSet bWith at h
 split at h
 ·simpa using h
 ·exact Or.inl (by simpa using h)
theorem set_len (L:Nat→Nat) (X:Nat→Nat→Nat→Int) (S:List Pl) (t:Nat):lenR (bSet X S) L t≤2*L t:=by
 unfold lenR
 rw [code_len]
 have:∀ i,plR (bSet X S t) i≤2*i:=fun i=>by
  induction i with
  | zero=>exact Nat.le_refl _
  | succ i ih =>
   rw [plR]
   have:(bSet X S t i).length≤2:=by unfold bSet bWith; split <;> simp
   omega
 exact this _
theorem set_cok {n m lk rg:Nat} {L:Nat→Nat} {X:Nat→Nat→Nat→Int} (hc:COk n L X m lk rg) (h4:∀ t,t < n→L t≤400) (S:List Pl):COk n (lenR (bSet X S) L) (numR (bSet X S) L) m lk rg :=
 new_cok hc (bSet X S) (fun t i _ _ x hx=>bSet_in X S t i x hx) (fun t ht=>by have:=set_len L X S t; have:=h4 t ht; omega)
end
section
open Go.RowKit
theorem truth_any (b:Bool) (w:World):Calls Tryz.prog 151 #[.bool b] w fun e w'=>e=.returned (.int .i64 (bitI b))∧w'=w:=by
 go_enter Tryz.func151,Tryz.ntmps151
 cases b <;> go_wp2 <;> go_ret <;> exact ⟨rfl,rfl⟩
end
section
open Go.RowKit
theorem reckon_1 (w:World) (B:Nat) (Q:Cd) (sb mb:Nat) (v:Rp→Value) (s:Sx) (rg t tb:Nat) (ia:Nat) (b:Int) (c:Int) (hs:QSt w B Q sb mb v s) (htb:(v .thr).ownBlock=some tb) (ht:t < s.ths.length) (_hn:s.ths.length≤4) (hrl:(thOf s t).regs.length=rg) (_hrg:rg≤200) (ha:ia < rg) :
  Calls Tryz.prog 132 #[.pointer (some ⟨tb,t*3,none⟩),ints4 1 (ia:Int) b c] w fun e w'=>e=.returned (.tuple #[])∧QSt w' B Q sb mb v (orderX Q.K.mode s t 1 (ia:Int) b c)∧Moved w w' v v:=by
 have hst:orderX Q.K.mode s t 1 (ia:Int) b c=setR s t (ia:Int) (b):=by
  rfl
 rw [hst]
 obtain ⟨rb,rc,hrv,hrb,hlt⟩:=hs.blk (.regs t) (by show 0 < (thOf s t).regs.length; omega)
 have hrn:pN Q s (.regs t)=rg:=hrl
 rw [hrn] at hrv
 have cr:=hs.regs htb ht
 rw [hrv] at cr
 have wa:=hs.reg hrb (r:=ia) (by omega)
 have fa:=hs.fam.frozen hrb ia
 have cru:=cell_up cr
 have wau:=cell_up wa
 have fau:=frozen_up (a:=⟨rb,ia,none⟩) hlt fa
 have HF:=hiD (⟨hs.setReg hrb ht ia (b),(Moved.refl w v).put hrb ia _⟩:QSt (w.setCell ⟨rb,ia,none⟩ (.int .i64 (b))) B Q sb mb v (setR s t (ia:Int) (b))∧Moved w (w.setCell ⟨rb,ia,none⟩ (.int .i64 (b))) v v)
 obtain ⟨VA,eA⟩:∃ x,getR s t (ia:Int)=x:=⟨_,rfl⟩
 have wa':=wau
 simp only [eA] at wa'
 clear wau wa hs hrv hrb hst hrn eA
 go_enter Tryz.func132,Tryz.ntmps132
 go_wp2
 go_end0
 exact ⟨rfl,QSt.same (HF.out.1.alloc _) rfl,Moved.same (HF.out.2.alloc _) rfl rfl rfl rfl⟩
theorem reckon_2 (w:World) (B:Nat) (Q:Cd) (sb mb:Nat) (v:Rp→Value) (s:Sx) (rg t tb:Nat) (ia:Nat) (ib:Nat) (c:Int) (hs:QSt w B Q sb mb v s) (htb:(v .thr).ownBlock=some tb) (ht:t < s.ths.length) (_hn:s.ths.length≤4) (hrl:(thOf s t).regs.length=rg) (_hrg:rg≤200) (ha:ia < rg) (hb:ib < rg) :
  Calls Tryz.prog 132 #[.pointer (some ⟨tb,t*3,none⟩),ints4 2 (ia:Int) (ib:Int) c] w fun e w'=>e=.returned (.tuple #[])∧QSt w' B Q sb mb v (orderX Q.K.mode s t 2 (ia:Int) (ib:Int) c)∧Moved w w' v v:=by
 have hst:orderX Q.K.mode s t 2 (ia:Int) (ib:Int) c=setR s t (ia:Int) ((getR s t (ib:Int))):=by
  rfl
 rw [hst]
 obtain ⟨rb,rc,hrv,hrb,hlt⟩:=hs.blk (.regs t) (by show 0 < (thOf s t).regs.length; omega)
 have hrn:pN Q s (.regs t)=rg:=hrl
 rw [hrn] at hrv
 have cr:=hs.regs htb ht
 rw [hrv] at cr
 have wa:=hs.reg hrb (r:=ia) (by omega)
 have fa:=hs.fam.frozen hrb ia
 have cru:=cell_up cr
 have wau:=cell_up wa
 have fau:=frozen_up (a:=⟨rb,ia,none⟩) hlt fa
 have wb:=hs.reg hrb (r:=ib) (by omega)
 have wbu:=cell_up wb
 have HF:=hiD (⟨hs.setReg hrb ht ia ((getR s t (ib:Int))),(Moved.refl w v).put hrb ia _⟩:QSt (w.setCell ⟨rb,ia,none⟩ (.int .i64 ((getR s t (ib:Int))))) B Q sb mb v (setR s t (ia:Int) ((getR s t (ib:Int))))∧Moved w (w.setCell ⟨rb,ia,none⟩ (.int .i64 ((getR s t (ib:Int))))) v v)
 obtain ⟨Vb,eb⟩:∃ x,getR s t (ib:Int)=x:=⟨_,rfl⟩
 rw [eb] at HF ⊢
 rw [eb] at wb wbu
 obtain ⟨VA,eA⟩:∃ x,getR s t (ia:Int)=x:=⟨_,rfl⟩
 have wa':=wau
 simp only [eA] at wa'
 clear wau wa hs hrv hrb hst hrn eA eb
 go_enter Tryz.func132,Tryz.ntmps132
 go_wp2
 refine region_tail 9 (by kernel_rfl) (by kernel_rfl) ?_
 simp only [List.take_succ_cons,List.take_zero,List.drop_succ_cons,List.drop_zero]
 repeat still_step
 refine wpStill_nil ?_
 go_wp2
 go_end0
 exact ⟨rfl,QSt.same (HF.out.1.alloc _) rfl,Moved.same (HF.out.2.alloc _) rfl rfl rfl rfl⟩
theorem reckon_3 (w:World) (B:Nat) (Q:Cd) (sb mb:Nat) (v:Rp→Value) (s:Sx) (rg t tb:Nat) (ia:Nat) (ib:Nat) (ic:Nat) (hs:QSt w B Q sb mb v s) (htb:(v .thr).ownBlock=some tb) (ht:t < s.ths.length) (_hn:s.ths.length≤4) (hrl:(thOf s t).regs.length=rg) (_hrg:rg≤200) (ha:ia < rg) (hb:ib < rg) (hc:ic < rg) :
  Calls Tryz.prog 132 #[.pointer (some ⟨tb,t*3,none⟩),ints4 3 (ia:Int) (ib:Int) (ic:Int)] w fun e w'=>e=.returned (.tuple #[])∧QSt w' B Q sb mb v (orderX Q.K.mode s t 3 (ia:Int) (ib:Int) (ic:Int))∧Moved w w' v v:=by
 have hst:orderX Q.K.mode s t 3 (ia:Int) (ib:Int) (ic:Int)=setR s t (ia:Int) (wrap64 ((getR s t (ib:Int))+(getR s t (ic:Int)))):=by
  show setR s t (ia:Int) _=_
  rw [IntWalk.i64_left]
 rw [hst]
 obtain ⟨rb,rc,hrv,hrb,hlt⟩:=hs.blk (.regs t) (by show 0 < (thOf s t).regs.length; omega)
 have hrn:pN Q s (.regs t)=rg:=hrl
 rw [hrn] at hrv
 have cr:=hs.regs htb ht
 rw [hrv] at cr
 have wa:=hs.reg hrb (r:=ia) (by omega)
 have fa:=hs.fam.frozen hrb ia
 have cru:=cell_up cr
 have wau:=cell_up wa
 have fau:=frozen_up (a:=⟨rb,ia,none⟩) hlt fa
 have wb:=hs.reg hrb (r:=ib) (by omega)
 have wbu:=cell_up wb
 have wc:=hs.reg hrb (r:=ic) (by omega)
 have wcu:=cell_up wc
 have HF:=hiD (⟨hs.setReg hrb ht ia (wrap64 ((getR s t (ib:Int))+(getR s t (ic:Int)))),(Moved.refl w v).put hrb ia _⟩:QSt (w.setCell ⟨rb,ia,none⟩ (.int .i64 (wrap64 ((getR s t (ib:Int))+(getR s t (ic:Int)))))) B Q sb mb v (setR s t (ia:Int) (wrap64 ((getR s t (ib:Int))+(getR s t (ic:Int)))))∧Moved w (w.setCell ⟨rb,ia,none⟩ (.int .i64 (wrap64 ((getR s t (ib:Int))+(getR s t (ic:Int)))))) v v)
 obtain ⟨Vb,eb⟩:∃ x,getR s t (ib:Int)=x:=⟨_,rfl⟩
 obtain ⟨Vc,ec⟩:∃ x,getR s t (ic:Int)=x:=⟨_,rfl⟩
 rw [eb,ec] at HF ⊢
 rw [eb] at wb wbu
 rw [ec] at wc wcu
 obtain ⟨VA,eA⟩:∃ x,getR s t (ia:Int)=x:=⟨_,rfl⟩
 have wa':=wau
 simp only [eA] at wa'
 clear wau wa hs hrv hrb hst hrn eA eb ec
 go_enter Tryz.func132,Tryz.ntmps132
 go_wp2
 refine region_tail 15 (by kernel_rfl) (by kernel_rfl) ?_
 simp only [List.take_succ_cons,List.take_zero,List.drop_succ_cons,List.drop_zero]
 repeat still_step
 refine wpStill_nil ?_
 go_wp2
 go_end0
 exact ⟨rfl,QSt.same (HF.out.1.alloc _) rfl,Moved.same (HF.out.2.alloc _) rfl rfl rfl rfl⟩
theorem reckon_4 (w:World) (B:Nat) (Q:Cd) (sb mb:Nat) (v:Rp→Value) (s:Sx) (rg t tb:Nat) (ia:Nat) (ib:Nat) (ic:Nat) (hs:QSt w B Q sb mb v s) (htb:(v .thr).ownBlock=some tb) (ht:t < s.ths.length) (_hn:s.ths.length≤4) (hrl:(thOf s t).regs.length=rg) (_hrg:rg≤200) (ha:ia < rg) (hb:ib < rg) (hc:ic < rg) :
  Calls Tryz.prog 132 #[.pointer (some ⟨tb,t*3,none⟩),ints4 4 (ia:Int) (ib:Int) (ic:Int)] w fun e w'=>e=.returned (.tuple #[])∧QSt w' B Q sb mb v (orderX Q.K.mode s t 4 (ia:Int) (ib:Int) (ic:Int))∧Moved w w' v v:=by
 have hst:orderX Q.K.mode s t 4 (ia:Int) (ib:Int) (ic:Int)=setR s t (ia:Int) (wrap64 ((getR s t (ib:Int)) - (getR s t (ic:Int)))):=by
  show setR s t (ia:Int) _=_
  rw [IntWalk.i64_left]
 rw [hst]
 obtain ⟨rb,rc,hrv,hrb,hlt⟩:=hs.blk (.regs t) (by show 0 < (thOf s t).regs.length; omega)
 have hrn:pN Q s (.regs t)=rg:=hrl
 rw [hrn] at hrv
 have cr:=hs.regs htb ht
 rw [hrv] at cr
 have wa:=hs.reg hrb (r:=ia) (by omega)
 have fa:=hs.fam.frozen hrb ia
 have cru:=cell_up cr
 have wau:=cell_up wa
 have fau:=frozen_up (a:=⟨rb,ia,none⟩) hlt fa
 have wb:=hs.reg hrb (r:=ib) (by omega)
 have wbu:=cell_up wb
 have wc:=hs.reg hrb (r:=ic) (by omega)
 have wcu:=cell_up wc
 have HF:=hiD (⟨hs.setReg hrb ht ia (wrap64 ((getR s t (ib:Int)) - (getR s t (ic:Int)))),(Moved.refl w v).put hrb ia _⟩:QSt (w.setCell ⟨rb,ia,none⟩ (.int .i64 (wrap64 ((getR s t (ib:Int)) - (getR s t (ic:Int)))))) B Q sb mb v (setR s t (ia:Int) (wrap64 ((getR s t (ib:Int)) - (getR s t (ic:Int)))))∧Moved w (w.setCell ⟨rb,ia,none⟩ (.int .i64 (wrap64 ((getR s t (ib:Int)) - (getR s t (ic:Int)))))) v v)
 obtain ⟨Vb,eb⟩:∃ x,getR s t (ib:Int)=x:=⟨_,rfl⟩
 obtain ⟨Vc,ec⟩:∃ x,getR s t (ic:Int)=x:=⟨_,rfl⟩
 rw [eb,ec] at HF ⊢
 rw [eb] at wb wbu
 rw [ec] at wc wcu
 obtain ⟨VA,eA⟩:∃ x,getR s t (ia:Int)=x:=⟨_,rfl⟩
 have wa':=wau
 simp only [eA] at wa'
 clear wau wa hs hrv hrb hst hrn eA eb ec
 go_enter Tryz.func132,Tryz.ntmps132
 go_wp2
 refine region_tail 15 (by kernel_rfl) (by kernel_rfl) ?_
 simp only [List.take_succ_cons,List.take_zero,List.drop_succ_cons,List.drop_zero]
 repeat still_step
 refine wpStill_nil ?_
 go_wp2
 go_end0
 exact ⟨rfl,QSt.same (HF.out.1.alloc _) rfl,Moved.same (HF.out.2.alloc _) rfl rfl rfl rfl⟩
theorem reckon_5 (w:World) (B:Nat) (Q:Cd) (sb mb:Nat) (v:Rp→Value) (s:Sx) (rg t tb:Nat) (ia:Nat) (ib:Nat) (ic:Nat) (hs:QSt w B Q sb mb v s) (htb:(v .thr).ownBlock=some tb) (ht:t < s.ths.length) (_hn:s.ths.length≤4) (hrl:(thOf s t).regs.length=rg) (_hrg:rg≤200) (ha:ia < rg) (hb:ib < rg) (hc:ic < rg) :
  Calls Tryz.prog 132 #[.pointer (some ⟨tb,t*3,none⟩),ints4 5 (ia:Int) (ib:Int) (ic:Int)] w fun e w'=>e=.returned (.tuple #[])∧QSt w' B Q sb mb v (orderX Q.K.mode s t 5 (ia:Int) (ib:Int) (ic:Int))∧Moved w w' v v:=by
 have hst:orderX Q.K.mode s t 5 (ia:Int) (ib:Int) (ic:Int)=setR s t (ia:Int) (wrap64 ((getR s t (ib:Int))*(getR s t (ic:Int)))):=by
  show setR s t (ia:Int) _=_
  rw [IntWalk.i64_left]
 rw [hst]
 obtain ⟨rb,rc,hrv,hrb,hlt⟩:=hs.blk (.regs t) (by show 0 < (thOf s t).regs.length; omega)
 have hrn:pN Q s (.regs t)=rg:=hrl
 rw [hrn] at hrv
 have cr:=hs.regs htb ht
 rw [hrv] at cr
 have wa:=hs.reg hrb (r:=ia) (by omega)
 have fa:=hs.fam.frozen hrb ia
 have cru:=cell_up cr
 have wau:=cell_up wa
 have fau:=frozen_up (a:=⟨rb,ia,none⟩) hlt fa
 have wb:=hs.reg hrb (r:=ib) (by omega)
 have wbu:=cell_up wb
 have wc:=hs.reg hrb (r:=ic) (by omega)
 have wcu:=cell_up wc
 have HF:=hiD (⟨hs.setReg hrb ht ia (wrap64 ((getR s t (ib:Int))*(getR s t (ic:Int)))),(Moved.refl w v).put hrb ia _⟩:QSt (w.setCell ⟨rb,ia,none⟩ (.int .i64 (wrap64 ((getR s t (ib:Int))*(getR s t (ic:Int)))))) B Q sb mb v (setR s t (ia:Int) (wrap64 ((getR s t (ib:Int))*(getR s t (ic:Int)))))∧Moved w (w.setCell ⟨rb,ia,none⟩ (.int .i64 (wrap64 ((getR s t (ib:Int))*(getR s t (ic:Int)))))) v v)
 obtain ⟨Vb,eb⟩:∃ x,getR s t (ib:Int)=x:=⟨_,rfl⟩
 obtain ⟨Vc,ec⟩:∃ x,getR s t (ic:Int)=x:=⟨_,rfl⟩
 rw [eb,ec] at HF ⊢
 rw [eb] at wb wbu
 rw [ec] at wc wcu
 obtain ⟨VA,eA⟩:∃ x,getR s t (ia:Int)=x:=⟨_,rfl⟩
 have wa':=wau
 simp only [eA] at wa'
 clear wau wa hs hrv hrb hst hrn eA eb ec
 go_enter Tryz.func132,Tryz.ntmps132
 go_wp2
 refine region_tail 15 (by kernel_rfl) (by kernel_rfl) ?_
 simp only [List.take_succ_cons,List.take_zero,List.drop_succ_cons,List.drop_zero]
 repeat still_step
 refine wpStill_nil ?_
 go_wp2
 go_end0
 exact ⟨rfl,QSt.same (HF.out.1.alloc _) rfl,Moved.same (HF.out.2.alloc _) rfl rfl rfl rfl⟩
theorem reckon_6 (w:World) (B:Nat) (Q:Cd) (sb mb:Nat) (v:Rp→Value) (s:Sx) (rg t tb:Nat) (ia:Nat) (ib:Nat) (ic:Nat) (hs:QSt w B Q sb mb v s) (htb:(v .thr).ownBlock=some tb) (ht:t < s.ths.length) (_hn:s.ths.length≤4) (hrl:(thOf s t).regs.length=rg) (_hrg:rg≤200) (ha:ia < rg) (hb:ib < rg) (hc:ic < rg) :
  Calls Tryz.prog 132 #[.pointer (some ⟨tb,t*3,none⟩),ints4 6 (ia:Int) (ib:Int) (ic:Int)] w fun e w'=>e=.returned (.tuple #[])∧QSt w' B Q sb mb v (orderX Q.K.mode s t 6 (ia:Int) (ib:Int) (ic:Int))∧Moved w w' v v:=by
 have hst:orderX Q.K.mode s t 6 (ia:Int) (ib:Int) (ic:Int)=setR s t (ia:Int) (bitI (decide ((getR s t (ib:Int)) < (getR s t (ic:Int))))):=by
  rfl
 rw [hst]
 obtain ⟨rb,rc,hrv,hrb,hlt⟩:=hs.blk (.regs t) (by show 0 < (thOf s t).regs.length; omega)
 have hrn:pN Q s (.regs t)=rg:=hrl
 rw [hrn] at hrv
 have cr:=hs.regs htb ht
 rw [hrv] at cr
 have wa:=hs.reg hrb (r:=ia) (by omega)
 have fa:=hs.fam.frozen hrb ia
 have cru:=cell_up cr
 have wau:=cell_up wa
 have fau:=frozen_up (a:=⟨rb,ia,none⟩) hlt fa
 have wb:=hs.reg hrb (r:=ib) (by omega)
 have wbu:=cell_up wb
 have wc:=hs.reg hrb (r:=ic) (by omega)
 have wcu:=cell_up wc
 have HF:=hiD (⟨hs.setReg hrb ht ia (bitI (decide ((getR s t (ib:Int)) < (getR s t (ic:Int))))),(Moved.refl w v).put hrb ia _⟩:QSt (w.setCell ⟨rb,ia,none⟩ (.int .i64 (bitI (decide ((getR s t (ib:Int)) < (getR s t (ic:Int))))))) B Q sb mb v (setR s t (ia:Int) (bitI (decide ((getR s t (ib:Int)) < (getR s t (ic:Int))))))∧Moved w (w.setCell ⟨rb,ia,none⟩ (.int .i64 (bitI (decide ((getR s t (ib:Int)) < (getR s t (ic:Int))))))) v v)
 obtain ⟨Vb,eb⟩:∃ x,getR s t (ib:Int)=x:=⟨_,rfl⟩
 obtain ⟨Vc,ec⟩:∃ x,getR s t (ic:Int)=x:=⟨_,rfl⟩
 rw [eb,ec] at HF ⊢
 rw [eb] at wb wbu
 rw [ec] at wc wcu
 obtain ⟨VA,eA⟩:∃ x,getR s t (ia:Int)=x:=⟨_,rfl⟩
 have wa':=wau
 simp only [eA] at wa'
 clear wau wa hs hrv hrb hst hrn eA eb ec
 go_enter Tryz.func132,Tryz.ntmps132
 go_wp2
 refine region_tail 16 (by kernel_rfl) (by kernel_rfl) ?_
 simp only [List.take_succ_cons,List.take_zero,List.drop_succ_cons,List.drop_zero]
 repeat still_step
 still_call (truth_any _ _)
 repeat still_step
 refine wpStill_nil ?_
 go_wp2
 go_end0
 exact ⟨rfl,QSt.same (HF.out.1.alloc _) rfl,Moved.same (HF.out.2.alloc _) rfl rfl rfl rfl⟩
theorem reckon_7 (w:World) (B:Nat) (Q:Cd) (sb mb:Nat) (v:Rp→Value) (s:Sx) (rg t tb:Nat) (ia:Nat) (ib:Nat) (ic:Nat) (hs:QSt w B Q sb mb v s) (htb:(v .thr).ownBlock=some tb) (ht:t < s.ths.length) (_hn:s.ths.length≤4) (hrl:(thOf s t).regs.length=rg) (_hrg:rg≤200) (ha:ia < rg) (hb:ib < rg) (hc:ic < rg) :
  Calls Tryz.prog 132 #[.pointer (some ⟨tb,t*3,none⟩),ints4 7 (ia:Int) (ib:Int) (ic:Int)] w fun e w'=>e=.returned (.tuple #[])∧QSt w' B Q sb mb v (orderX Q.K.mode s t 7 (ia:Int) (ib:Int) (ic:Int))∧Moved w w' v v:=by
 have hst:orderX Q.K.mode s t 7 (ia:Int) (ib:Int) (ic:Int)=setR s t (ia:Int) (bitI (decide ((getR s t (ib:Int))=(getR s t (ic:Int))))):=by
  rfl
 rw [hst]
 obtain ⟨rb,rc,hrv,hrb,hlt⟩:=hs.blk (.regs t) (by show 0 < (thOf s t).regs.length; omega)
 have hrn:pN Q s (.regs t)=rg:=hrl
 rw [hrn] at hrv
 have cr:=hs.regs htb ht
 rw [hrv] at cr
 have wa:=hs.reg hrb (r:=ia) (by omega)
 have fa:=hs.fam.frozen hrb ia
 have cru:=cell_up cr
 have wau:=cell_up wa
 have fau:=frozen_up (a:=⟨rb,ia,none⟩) hlt fa
 have wb:=hs.reg hrb (r:=ib) (by omega)
 have wbu:=cell_up wb
 have wc:=hs.reg hrb (r:=ic) (by omega)
 have wcu:=cell_up wc
 have HF:=hiD (⟨hs.setReg hrb ht ia (bitI (decide ((getR s t (ib:Int))=(getR s t (ic:Int))))),(Moved.refl w v).put hrb ia _⟩:QSt (w.setCell ⟨rb,ia,none⟩ (.int .i64 (bitI (decide ((getR s t (ib:Int))=(getR s t (ic:Int))))))) B Q sb mb v (setR s t (ia:Int) (bitI (decide ((getR s t (ib:Int))=(getR s t (ic:Int))))))∧Moved w (w.setCell ⟨rb,ia,none⟩ (.int .i64 (bitI (decide ((getR s t (ib:Int))=(getR s t (ic:Int))))))) v v)
 obtain ⟨Vb,eb⟩:∃ x,getR s t (ib:Int)=x:=⟨_,rfl⟩
 obtain ⟨Vc,ec⟩:∃ x,getR s t (ic:Int)=x:=⟨_,rfl⟩
 rw [eb,ec] at HF ⊢
 rw [eb] at wb wbu
 rw [ec] at wc wcu
 obtain ⟨VA,eA⟩:∃ x,getR s t (ia:Int)=x:=⟨_,rfl⟩
 have wa':=wau
 simp only [eA] at wa'
 clear wau wa hs hrv hrb hst hrn eA eb ec
 go_enter Tryz.func132,Tryz.ntmps132
 go_wp2
 refine region_tail 16 (by kernel_rfl) (by kernel_rfl) ?_
 simp only [List.take_succ_cons,List.take_zero,List.drop_succ_cons,List.drop_zero]
 repeat still_step
 still_call (truth_any _ _)
 repeat still_step
 refine wpStill_nil ?_
 go_wp2
 go_end0
 exact ⟨rfl,QSt.same (HF.out.1.alloc _) rfl,Moved.same (HF.out.2.alloc _) rfl rfl rfl rfl⟩
theorem reckon_12 (w:World) (B:Nat) (Q:Cd) (sb mb:Nat) (v:Rp→Value) (s:Sx) (_rg t tb:Nat) (a b c:Int) (hs:QSt w B Q sb mb v s) (htb:(v .thr).ownBlock=some tb) (ht:t < s.ths.length) :
  Calls Tryz.prog 132 #[.pointer (some ⟨tb,t*3,none⟩),ints4 12 a b c] w fun e w'=>e=.returned (.tuple #[])∧QSt w' B Q sb mb v (orderX Q.K.mode s t 12 a b c)∧Moved w w' v v:=by
 have hst:orderX Q.K.mode s t 12 a b c=s:=rfl
 rw [hst]
 have cru:=cell_up (hs.regs htb ht)
 obtain ⟨ra,rc,hrv⟩:=hs.form (.regs t)
 rw [hrv] at cru
 have HF:=hiD (⟨hs,Moved.refl w v⟩:QSt w B Q sb mb v s∧Moved w w v v)
 obtain ⟨n,hn⟩:∃ n,pN Q s (.regs t)=n:=⟨_,rfl⟩
 rw [hn] at cru
 clear hs hrv hn hst
 go_enter Tryz.func132,Tryz.ntmps132
 go_wp2
 go_end0
 exact ⟨rfl,QSt.same (HF.out.1.alloc _) rfl,Moved.same (HF.out.2.alloc _) rfl rfl rfl rfl⟩
end
section
open Go.RowKit
def IIn (w:World) (a:Option Addr) (n:Nat) (X:Nat→Int):Prop:=∀ i,i < n→∃ b o,a=some ⟨b,o,none⟩∧w.cell? ⟨b,o+i,none⟩=some (.int .i64 (X i))
theorem IIn.below {w w':World} {a:Option Addr} {n:Nat} {X:Nat→Int} (h:IIn w a n X) (hb:Below w.heap.size w w'):IIn w' a n X:=fun i hi=>by
 obtain ⟨b,o,hc,h1⟩:=h i hi
 exact ⟨b,o,hc,(hb.cell (lt_of_cell h1)).trans h1⟩
end
section
open Go.RowKit
theorem IsI.iin {w:World} {B:Nat} {a:Option Addr} {len c:Nat} {xs:List Int} (h:IsI w B a len c xs):IIn w a len (fun i=>xs.getD i 0):=fun i hi=>by
 obtain ⟨g,cap,h1,h2,_,_⟩:=fam_block h.own (by omega)
 simp only [Value.slice.injEq] at h1
 exact ⟨g,0,h1.1,by simpa using fam_cell h.own h2 (intsV_at (by rw [h.is]; exact hi))⟩
end
section
open Go.RowKit
def bitK (N s k:Nat):Bool:=s.testBit (N - 1 - k)
def outU (l:List Pl) (s:Nat):Nat→List Pl
 | 0=>[]
 | k+1=>outU l s k++(if bitK l.length s k=true then [l.getD k (0,0)] else [])
def putU (l:List Pl) (s:Nat) (f:Nat→Nat→Bool):Nat→Nat→Nat→Bool
 | 0=>f
 | k+1=>fun u v=>if u=(l.getD k (0,0)).1∧v=(l.getD k (0,0)).2 then bitK l.length s k else putU l s f k u v
theorem putU_succ (l:List Pl) (s:Nat) (f:Nat→Nat→Bool) (k u v:Nat):putU l s f (k+1) u v=if u=(l.getD k (0,0)).1∧v=(l.getD k (0,0)).2 then bitK l.length s k else putU l s f k u v:=rfl
theorem outU_mem {l:List Pl} {s:Nat} {x:Pl}:∀ {k:Nat},x∈outU l s k↔∃ q,q < k∧bitK l.length s q=true∧l.getD q (0,0)=x
 | 0=>by simp [outU]
 | k+1=>by
  rw [outU,List.mem_append,outU_mem]
  constructor
  ·rintro (⟨q,h1,h2,h3⟩ | h)
   ·exact ⟨q,by omega,h2,h3⟩
   ·split at h
    ·rename_i hb
     exact ⟨k,by omega,hb,(List.mem_singleton.1 h).symm⟩
    ·cases h
  ·rintro ⟨q,h1,h2,h3⟩
   by_cases e:q=k
   ·subst e
    rw [if_pos h2]
    exact Or.inr (List.mem_singleton.2 h3.symm)
   ·exact Or.inl ⟨q,by omega,h2,h3⟩
theorem out_cons (x:Pl) (l:List Pl) (s:Nat):∀ k,outU (x::l) s (k+1)=(if s.testBit l.length=true then [x] else [])++outU l s k
 | 0=>by
  rw [outU,outU,outU]
  simp [bitK]
 | k+1=>by
  rw [outU,out_cons x l s k,outU,List.append_assoc]
  congr 2
  have e:bitK (x::l).length s (k+1)=bitK l.length s k:=by
   unfold bitK
   rw [List.length_cons]
   congr 1
   omega
  rw [e]
  rfl
theorem out_bit:∀ (l:List Pl) (s:Nat),outU l s l.length=bitS l s
 | [],_=>rfl
 | x::l,s=>by
  rw [List.length_cons,out_cons,out_bit l s]
  rfl
theorem putU_in {l:List Pl} {s:Nat} {f:Nat→Nat→Bool} (hd:l.Pairwise RiseP) {u v q:Nat} (hq:l.getD q (0,0)=(u,v)) (hl:q < l.length):∀ k,q < k→k≤l.length→putU l s f k u v=bitK l.length s q
 | 0,h,_=>by omega
 | k+1,h,h2=>by
  rw [putU_succ]
  by_cases e:q=k
  ·subst e
   rw [if_pos (by rw [hq]; exact ⟨rfl,rfl⟩)]
  ·have hr:=List.pairwise_iff_getElem.1 hd q k hl (by omega) (by omega)
   have e1:l[q]=(u,v):=by rw [← hq,List.getD_eq_getElem?_getD,List.getElem?_eq_getElem hl]; rfl
   have e2:l.getD k (0,0)=l[k]:=by rw [List.getD_eq_getElem?_getD,List.getElem?_eq_getElem (by omega)]; rfl
   rw [e1] at hr
   rw [if_neg,putU_in hd hq hl k (by omega) (by omega)]
   rintro ⟨h3,h4⟩
   rw [e2] at h3 h4
   unfold RiseP at hr
   simp only at hr
   omega
theorem putU_out {l:List Pl} {s:Nat} {f:Nat→Nat→Bool} {u v:Nat} (hn:(u,v)∉l):∀ k,k≤l.length→putU l s f k u v=f u v
 | 0,_=>rfl
 | k+1,h=>by
  rw [putU_succ,if_neg,putU_out hn k (by omega)]
  rintro ⟨h1,h2⟩
  apply hn
  have e:l.getD k (0,0)=(u,v):=by rw [Prod.ext_iff]; exact ⟨h1.symm,h2.symm⟩
  have e2:l.getD k (0,0)=l[k]:=by rw [List.getD_eq_getElem?_getD,List.getElem?_eq_getElem (by omega)]; rfl
  rw [← e,e2]
  exact List.getElem_mem _
theorem put_set {n:Nat} {L:Nat→Nat} {X:Nat→Nat→Nat→Int} {s:Nat} {u v:Nat} (hu:u < n) (hv:v < L u):putU (plA L X n) s (fun t i=>wtO (X t i 0)) (plA L X n).length u v=setB (bitS (plA L X n) s) u v:=by
 unfold setB
 rw [← out_bit]
 by_cases h:(u,v)∈plA L X n
 ·obtain ⟨q,hq,e⟩:=List.getElem_of_mem h
  have e2:(plA L X n).getD q (0,0)=(u,v):=by rw [List.getD_eq_getElem?_getD,List.getElem?_eq_getElem hq,e]; rfl
  rw [putU_in (plA_rise n) e2 hq _ hq (Nat.le_refl _)]
  rw [Bool.eq_iff_iff,decide_eq_true_iff,outU_mem]
  constructor
  ·intro hb
   exact ⟨q,hq,hb,e2⟩
  ·rintro ⟨q',h1,h2,h3⟩
   have:q=q':=by
    have hr:=plA_rise (L:=L) (X:=X) n
    have e3:(plA L X n)[q']=(u,v):=by rw [← h3,List.getD_eq_getElem?_getD,List.getElem?_eq_getElem h1]; rfl
    rcases Nat.lt_trichotomy q q' with hlt | he | hgt
    ·have:=List.pairwise_iff_getElem.1 hr q q' hq h1 hlt
     rw [e,e3] at this
     unfold RiseP at this
     simp only at this
     omega
    ·exact he
    ·have:=List.pairwise_iff_getElem.1 hr q' q h1 hq hgt
     rw [e,e3] at this
     unfold RiseP at this
     simp only at this
     omega
   rw [this]; exact h2
 ·rw [putU_out h _ (Nat.le_refl _)]
  have hw:wtO (X u v 0)=false:=by
   cases hc:wtO (X u v 0) with
   | false=>rfl
   | true=>exact absurd (plA_mem.2 ⟨hu,hv,hc⟩) h
  rw [hw,Eq.comm,decide_eq_false_iff_not,outU_mem]
  rintro ⟨q,h1,_,h3⟩
  apply h
  have e2:(plA L X n).getD q (0,0)=(plA L X n)[q]:=by rw [List.getD_eq_getElem?_getD,List.getElem?_eq_getElem h1]; rfl
  rw [← h3,e2]
  exact List.getElem_mem _
end
section
open Go.RowKit
theorem rcheck_any (ca:Option Addr) (n cc:Nat) (wa:Option Addr) (m wc:Nat) (lk rg:Int) (A:Nat→Option Addr) (L C:Nat→Nat) (X:Nat→Nat→Nat→Int) (x y z:Int) (HR:Hid (chk n L X m lk rg=(x,y,z))) (w:World) (hp:PIn w ca n A L C X) :
  Calls Tryz.prog 13 #[prgV ca n cc wa m wc lk rg] w fun e w'=>e=.returned (ints3 x y z)∧Below w.heap.size w w':=by
 have h:=HR.out
 unfold chk sizesE at h
 by_cases h1:(n:Int) < 1∨4 < (n:Int)∨64 < (m:Int)
 ·simp only [h1,if_true] at h
  simp at h
  obtain ⟨rfl,rfl,rfl⟩:=h
  exact rcheck_size ca n cc wa m wc lk rg h1 w
 ·by_cases h2:lk < 0∨4 < lk∨rg < 1∨200 < rg
  ·simp only [h1,h2,if_true,if_false] at h
   simp at h
   obtain ⟨rfl,rfl,rfl⟩:=h
   exact rcheck_range ca n cc wa m wc lk rg (by omega) (by omega) h2 w
  ·simp only [h1,h2,if_false,ne_eq,not_true_eq_false] at h
   exact rcheck_go ca n cc wa m wc lk rg A L C X x y z (by omega) (by omega) (by omega) (by omega) h w hp
end
end Go.Proofs.YtelckcpjmekgcacGreatDoor
