import Derived.Test.YtelckcpjmekgcacGreatDoorPStepP
namespace Go.Proofs.YtelckcpjmekgcacGreatDoor
set_option maxHeartbeats 1600000
set_option maxRecDepth 100000
section
open Go.RowKit
theorem tended_any (w:World) (B:Nat) (Q:Cd) (sb mb:Nat) (v:Rp→Value) (s:Sx) (tb t:Nat) (hs:QSt w B Q sb mb v s) (htb:(v .thr).ownBlock=some tb) (ht:t < s.ths.length) (_hn:s.ths.length≤4) (_hL:Q.L t≤1000) (hpc:(thOf s t).pc≤Q.L t) :
  Calls Tryz.prog 74 #[.pointer (some ⟨tb,t*3,none⟩)] w fun e w'=>e=.returned (.bool (endedT Q.L s t))∧∃ k,w'=w.drewN k:=by
 have c0:=hs.code htb ht
 have c1:=hs.pc htb ht
 have hr:endedT Q.L s t=decide ((thOf s t).pc=Q.L t):=by
  unfold endedT
  exact decide_eq_decide.2 (by omega)
 rw [hr]
 obtain ⟨pc,hp⟩:∃ x,(thOf s t).pc=x:=⟨_,rfl⟩
 obtain ⟨l,hl⟩:∃ x,Q.L t=x:=⟨_,rfl⟩
 rw [hp] at c1 hpc ⊢
 rw [hl] at c0 _hL hpc ⊢
 clear hs hr hp hl htb
 go_enter Tryz.func74,Tryz.ntmps74
 go_wp2
 go_quiet (fail)
 go_wp2
 go_ret
 exact ⟨ret_bool (by rw [Bool.eq_iff_iff]; simp; omega),nq,rfl⟩
def allEnded (L:Nat→Nat) (s:Sx):Bool:=(List.range s.ths.length).all fun t=>endedT L s t
theorem ended_bare {L:Nat→Nat} {s:Sx} (h:∀ t,t < s.ths.length→(thOf s t).wait=[]):endedX L s=allEnded L s:=by
 unfold endedX allEnded
 rw [Bool.eq_iff_iff,List.all_eq_true,List.all_eq_true]
 constructor
 ·intro h1 t ht
  have:=h1 t ht
  simp at this
  exact this.1
 ·intro h1 t ht
  rw [h1 t ht,h t (by simpa using ht)]
  rfl
theorem rest_any (w:World) (B:Nat) (Q:Cd) (sb mb:Nat) (v:Rp→Value) (s:Sx) (n:Nat) (hs:QSt w B Q sb mb v s) (hn:s.ths.length=n) (h0:0 < n) (h4:n≤4) (hL:∀ t,t < n→Q.L t≤1000) (hpc:∀ t,t < n→(thOf s t).pc≤Q.L t) :
  Calls Tryz.prog 97 #[.pointer (some ⟨sb,0,none⟩)] w fun e w'=>e=.returned (.int .i64 (if allEnded Q.L s then 0 else 2))∧Below w.heap.size w w':=by
 obtain ⟨tb,tc,hth,htb,_⟩:=hs.blk .thr (by show 0 < s.ths.length; omega)
 have c1:=hs.c1
 rw [hth] at c1
 change w.cell? ⟨sb,1,none⟩=some (.slice (some ⟨tb,0,none⟩) s.ths.length tc) at c1
 rw [hn] at c1
 have HT:Hid (∀ wr t,t < n→Below w.heap.size w wr→Calls Tryz.prog 74 #[.pointer (some ⟨tb,t*3,none⟩)] wr fun e w'=>e=.returned (.bool (endedT Q.L s t))∧∃ k,w'=wr.drewN k):=fun wr t ht hb =>
  tended_any wr B Q sb mb v s tb t (hs.below hb) htb (by omega) (by omega) (hL t ht) (hpc t ht)
 obtain ⟨r,hr⟩:∃ r,allEnded Q.L s=r:=⟨_,rfl⟩
 have HR:Hid (allEnded Q.L s=r):=hr
 have HN:Hid (s.ths.length=n):=hn
 rw [hr]
 clear hr hs hth htb hn hL hpc h0
 go_enter Tryz.func97,Tryz.ntmps97
 go_wp2_with fail
 go_loopw [9] (fun i wr=>∃ j:Nat,j≤n∧i=.int .i64 j∧Hid (∀ p,p < j→endedT Q.L s p=true)∧Below w.heap.size w wr) (fun i _=>n - (intOf i).toNat)
 case atStart=>exact ⟨0,Nat.zero_le _,rfl,fun p hp=>absurd hp (Nat.not_lt_zero _),Below.refl _ _⟩
 case round =>
  obtain ⟨j,hj,rfl,HJ,hbr⟩:=hrel
  have c1r:=(hbr.cell (lt_of_cell c1)).trans c1
  by_cases hlt:j < n
  ·have HC:=hiD (HT.out _ j hlt hbr)
   go_wp2_with fail
   refine Calls.mono HC.out ?_
   rintro e w1 ⟨rfl,kd,rfl⟩
   cases he:endedT Q.L s j with
   | true =>
    have HE:Hid (endedT Q.L s j=true):=he
    clear he HC
    go_wp2
    go_roundw
    case rel =>
     refine ⟨j+1,by omega,by go_num,fun p hp=>?_,below_drewN hbr⟩
     rcases (by omega:p < j∨p=j) with h | rfl
     ·exact HJ.out p h
     ·exact HE.out
    case measure=>simp [intOf]; omega
   | false =>
    obtain rfl:r=false:=by
     rw [← HR.out]
     unfold allEnded
     rw [List.all_eq_false]
     exact ⟨j,by rw [HN.out]; simpa using hlt,by rw [he]; simp⟩
    clear he HC
    go_wp2
    go_ret
    exact ⟨rfl,below_drewN hbr⟩
  ·obtain rfl:r=true:=by
    rw [← HR.out]
    unfold allEnded
    rw [List.all_eq_true]
    intro p hp
    rw [HN.out] at hp
    exact HJ.out p (by simp at hp; omega)
   go_wp2
   go_ret
   exact ⟨rfl,hbr⟩
theorem moves_bare {L:Nat→Nat} {X:Nat→Nat→Nat→Int} {mode:Int} {s:Sx} (h:movesX L X mode s=[]) {t:Nat} (ht:t < s.ths.length):(thOf s t).wait=[]:=by
 unfold movesX at h
 rw [List.flatMap_eq_nil_iff] at h
 have h1:=h t (by simpa using ht)
 unfold movesT at h1
 rw [List.append_eq_nil_iff] at h1
 have h2:=h1.2
 rw [List.map_eq_nil_iff,List.filter_eq_nil_iff] at h2
 cases hw:(thOf s t).wait with
 | nil=>rfl
 | cons a l=>exact absurd (show mayW mode (thOf s t).wait 0=true from rfl) (h2 0 (by simp [hw]))
end
section
open Go.RowKit
section
variable {S:Type} {nx:S→List S} {outs:S→List Oc} {s0:S} {K:List S} {P P':S→Prop} {E E':Oc→Prop}
theorem Wk.begin:Wk nx outs s0 [s0] (fun _=>False) (fun _=>False) :=
 ⟨by simp,by simp,fun s h=>by rw [List.mem_singleton.mp h]; exact .base,fun _ h=>h.elim,fun _ h=>h.elim,fun _ h=>h.elim,fun _ h=>h.elim⟩
theorem Wk.same (h:Wk nx outs s0 K P E) (hP:∀ s,P' s↔P s) (hE:∀ o,E' o↔E o):Wk nx outs s0 K P' E' :=
 ⟨h.nodup,h.first,h.reach,fun s hs=>h.known s ((hP s).1 hs),fun s hs=>h.next s ((hP s).1 hs),fun o ho=>h.ends o ((hE o).1 ho),fun s hs o ho=>(hE o).2 (h.all s ((hP s).1 hs) o ho)⟩
theorem Wk.push (h:Wk nx outs s0 K P E) {x t:S} (hx:x∈K) (ht:t∈nx x) (hn:t∉K):Wk nx outs s0 (K++[t]) P E where
 nodup:=by
  rw [List.nodup_append]
  refine ⟨h.nodup,by simp,fun a ha b hb e=>?_⟩
  rw [List.mem_singleton.mp hb] at e
  exact hn (e ▸ ha)
 first:=List.mem_append_left _ h.first
 reach s hs:=by
  rcases List.mem_append.mp hs with hs | hs
  ·exact h.reach s hs
  ·rw [List.mem_singleton.mp hs]; exact .step (h.reach x hx) ht
 known s hs:=List.mem_append_left _ (h.known s hs)
 next s hs t' ht':=List.mem_append_left _ (h.next s hs t' ht')
 ends:=h.ends
 all:=h.all
theorem Wk.out (h:Wk nx outs s0 K P E) {x:S} {o:Oc} (hx:x∈K) (ho:o∈outs x) (hE:∀ y,E' y↔y=o∨E y):Wk nx outs s0 K P E' :=
 ⟨h.nodup,h.first,h.reach,h.known,h.next,fun y hy=>by
  rcases (hE y).1 hy with e | hy
  ·rw [e]; exact ⟨x,h.reach x hx,ho⟩
  ·exact h.ends y hy,fun s hs y hy=>(hE y).2 (Or.inr (h.all s hs y hy))⟩
theorem Wk.gone (h:Wk nx outs s0 K P E) {x:S} (hx:x∈K) (hn:∀ t,t∈nx x→t∈K) (ho:∀ o,o∈outs x→E o) (hP:∀ s,P' s→s=x∨P s):Wk nx outs s0 K P' E :=
 ⟨h.nodup,h.first,h.reach,fun s hs=>by
  rcases hP s hs with e | hs
  ·rw [e]; exact hx
  ·exact h.known s hs,fun s hs=>by
  rcases hP s hs with e | hs
  ·rw [e]; exact hn
  ·exact h.next s hs,h.ends,fun s hs=>by
  rcases hP s hs with e | hs
  ·rw [e]; exact ho
  ·exact h.all s hs⟩
end
section
variable {L:Nat→Nat} {X:Nat→Nat→Nat→Int} {mode:Int} {s:Sx}
theorem nx_none (h:movesX L X mode s=[]):nxX L X mode s=[]:=by unfold nxX; rw [h]; rfl
theorem outs_none (h:movesX L X mode s=[]):outsX L X mode s=[⟨if endedX L s then 0 else 2,s.words,s.prints⟩]:=by
 unfold outsX
 rw [h]
 rfl
def Mvd (L:Nat→Nat) (X:Nat→Nat→Nat→Int) (mode:Int) (s:Sx) (K:List Sx) (E:Oc→Prop) (k:Nat):Prop :=
 ∀ j,j < k→((doX X mode s ((movesX L X mode s).getD j 0).toNat).fell=true→E ⟨1,[],(doX X mode s ((movesX L X mode s).getD j 0).toNat).prints⟩)∧((doX X mode s ((movesX L X mode s).getD j 0).toNat).fell=false→doX X mode s ((movesX L X mode s).getD j 0).toNat∈K)
theorem Mvd.next {K K':List Sx} {E E':Oc→Prop} {k:Nat} (h:Mvd L X mode s K E k) (hK:∀ t,t∈K→t∈K') (hE:∀ o,E o→E' o) (h1:(doX X mode s ((movesX L X mode s).getD k 0).toNat).fell=true→E' ⟨1,[],(doX X mode s ((movesX L X mode s).getD k 0).toNat).prints⟩) (h2:(doX X mode s ((movesX L X mode s).getD k 0).toNat).fell=false→doX X mode s ((movesX L X mode s).getD k 0).toNat∈K'):Mvd L X mode s K' E' (k+1):=fun j hj=>by
 rcases Nat.lt_or_ge j k with h3 | h3
 ·exact ⟨fun hf=>hE _ ((h j h3).1 hf),fun hf=>hK _ ((h j h3).2 hf)⟩
 ·obtain rfl:j=k:=by omega
  exact ⟨h1,h2⟩
theorem mv_getD {l:List Int} {mv:Int} (h:mv∈l):∃ j,j < l.length∧l.getD j 0=mv:=by
 obtain ⟨j,hj,e⟩:=List.getElem_of_mem h
 exact ⟨j,hj,by rw [List.getD_eq_getElem?_getD,List.getElem?_eq_getElem hj]; exact e⟩
theorem getD_mv {l:List Int} {j:Nat} (h:j < l.length):l.getD j 0∈l:=by
 rw [List.getD_eq_getElem?_getD,List.getElem?_eq_getElem h]
 exact List.getElem_mem h
theorem Mvd.nx {K:List Sx} {E:Oc→Prop} (h:Mvd L X mode s K E (movesX L X mode s).length) {t:Sx} (ht:t∈nxX L X mode s):t∈K:=by
 obtain ⟨mv,h1,h2,h3⟩:=mem_nx.mp ht
 obtain ⟨j,hj,rfl⟩:=mv_getD h1
 rw [← h2] at h3 ⊢
 exact (h j hj).2 h3
theorem Mvd.outs {K:List Sx} {E:Oc→Prop} (h:Mvd L X mode s K E (movesX L X mode s).length) (hm:movesX L X mode s≠[]) {o:Oc} (ho:o∈outsX L X mode s):E o:=by
 unfold outsX at ho
 rw [if_neg hm,List.nil_append] at ho
 obtain ⟨mv,h1,h2⟩:=List.mem_filterMap.mp ho
 obtain ⟨j,hj,rfl⟩:=mv_getD h1
 cases hf:(doX X mode s ((movesX L X mode s).getD j 0).toNat).fell with
 | false=>rw [hf] at h2; cases h2
 | true =>
  rw [hf] at h2
  rw [← Option.some.inj h2]
  exact (h j hj).1 hf
theorem fell_out {mv:Int} (h:mv∈movesX L X mode s) (hf:(doX X mode s mv.toNat).fell=true):(⟨1,[],(doX X mode s mv.toNat).prints⟩:Oc)∈outsX L X mode s:=by
 unfold outsX
 refine List.mem_append_right _ (List.mem_filterMap.mpr ⟨mv,h,?_⟩)
 rw [hf]
 rfl
end
end
section
open Go.RowKit
structure Df (L:Nat→Nat) (X:Nat→Nat→Nat→Int) (mode:Int) (s0:Sx) (K P Z O F:List Sx):Prop where
 nodup:K.Nodup
 first:s0∈K
 reach:∀ s,s∈K→Rch (nxX L X mode) s0 s
 split:∀ s,s∈K↔s∈Z∨s∈O
 zo:(Z++O).Nodup
 next:∀ s,s∈P→∀ t,t∈nxX L X mode s→t∈K
 fin:∀ f,f∈F→∃ s mv,s∈Z∧mv∈movesX L X mode s∧doX X mode s mv.toNat=f∧f.fell=true
 fall:∀ s,s∈P→∀ mv,mv∈movesX L X mode s→(doX X mode s mv.toNat).fell=true→doX X mode s mv.toNat∈F
section
variable {L:Nat→Nat} {X:Nat→Nat→Nat→Int} {mode:Int} {s0:Sx} {K P Z O F:List Sx}
theorem Df.begin:Df L X mode s0 [s0] [] [] [s0] [] :=
 ⟨by simp,by simp,fun s h=>by rw [List.mem_singleton.mp h]; exact .base,fun s=>by simp,by simp,fun _ h=>absurd h List.not_mem_nil,fun _ h=>absurd h List.not_mem_nil,fun _ h=>absurd h List.not_mem_nil⟩
theorem Df.len (h:Df L X mode s0 K P Z O F):Z.length+O.length=K.length:=by
 have h1:=nodup_len h.zo (r:=K) (fun x hx=>(h.split x).2 (List.mem_append.mp hx))
 have h2:=nodup_len h.nodup (r:=Z++O) (fun x hx=>List.mem_append.mpr ((h.split x).1 hx))
 rw [List.length_append] at h1 h2
 omega
theorem Df.pop {s:Sx} (h:Df L X mode s0 K Z Z (O++[s]) F):Df L X mode s0 K Z (Z++[s]) O F :=
 ⟨h.nodup,h.first,h.reach,fun x=>by
  rw [h.split x,List.mem_append,List.mem_append]
  constructor
  ·rintro (h1 | h1 | h1)
   ·exact Or.inl (Or.inl h1)
   ·exact Or.inr h1
   ·exact Or.inl (Or.inr h1)
  ·rintro ((h1 | h1) | h1)
   ·exact Or.inl h1
   ·exact Or.inr (Or.inr h1)
   ·exact Or.inr (Or.inl h1),by
  refine h.zo.perm ?_
  rw [List.append_assoc]
  exact List.Perm.append_left _ List.perm_append_comm,h.next,fun f hf=>by
  obtain ⟨x,mv,h1,h2⟩:=h.fin f hf
  exact ⟨x,mv,List.mem_append_left _ h1,h2⟩,h.fall⟩
theorem Df.come {s t:Sx} (h:Df L X mode s0 K P Z O F) (hs:s∈K) (ht:t∈nxX L X mode s) (hn:t∉K):Df L X mode s0 (K++[t]) P Z (O++[t]) F :=
 ⟨by
  rw [List.nodup_append]
  refine ⟨h.nodup,by simp,fun a ha b hb e=>?_⟩
  rw [List.mem_singleton.mp hb] at e
  exact hn (e ▸ ha),List.mem_append_left _ h.first,fun x hx=>by
  rcases List.mem_append.mp hx with hx | hx
  ·exact h.reach x hx
  ·rw [List.mem_singleton.mp hx]; exact .step (h.reach s hs) ht,fun x=>by
  rw [List.mem_append,List.mem_append,h.split x,or_assoc],by
  rw [← List.append_assoc,List.nodup_append]
  refine ⟨h.zo,by simp,fun a ha b hb e=>?_⟩
  rw [List.mem_singleton.mp hb] at e
  exact hn (e ▸ (h.split a).2 (List.mem_append.mp ha)),fun x hx y hy=>List.mem_append_left _ (h.next x hx y hy),h.fin,h.fall⟩
theorem Df.fell {s:Sx} {mv:Int} (h:Df L X mode s0 K P Z O F) (hs:s∈Z) (hm:mv∈movesX L X mode s) (hf:(doX X mode s mv.toNat).fell=true):Df L X mode s0 K P Z O (F++[doX X mode s mv.toNat]) :=
 ⟨h.nodup,h.first,h.reach,h.split,h.zo,h.next,fun f hf'=>by
  rcases List.mem_append.mp hf' with hf' | hf'
  ·exact h.fin f hf'
  ·rw [List.mem_singleton.mp hf']; exact ⟨s,mv,hs,hm,rfl,hf⟩,fun x hx mv' h1 h2=>List.mem_append_left _ (h.fall x hx mv' h1 h2)⟩
def Fwd (L:Nat→Nat) (X:Nat→Nat→Nat→Int) (mode:Int) (s:Sx) (K F:List Sx) (k:Nat):Prop :=
 ∀ j,j < k→((doX X mode s ((movesX L X mode s).getD j 0).toNat).fell=true→doX X mode s ((movesX L X mode s).getD j 0).toNat∈F)∧((doX X mode s ((movesX L X mode s).getD j 0).toNat).fell=false→doX X mode s ((movesX L X mode s).getD j 0).toNat∈K)
theorem Fwd.next {s:Sx} {K' F':List Sx} {k:Nat} (h:Fwd L X mode s K F k) (hK:∀ t,t∈K→t∈K') (hF:∀ t,t∈F→t∈F') (h1:(doX X mode s ((movesX L X mode s).getD k 0).toNat).fell=true→doX X mode s ((movesX L X mode s).getD k 0).toNat∈F') (h2:(doX X mode s ((movesX L X mode s).getD k 0).toNat).fell=false→doX X mode s ((movesX L X mode s).getD k 0).toNat∈K'):Fwd L X mode s K' F' (k+1):=fun j hj=>by
 rcases Nat.lt_or_ge j k with h3 | h3
 ·exact ⟨fun hf=>hF _ ((h j h3).1 hf),fun hf=>hK _ ((h j h3).2 hf)⟩
 ·obtain rfl:j=k:=by omega
  exact ⟨h1,h2⟩
theorem Df.gone {s:Sx} (h:Df L X mode s0 K Z (Z++[s]) O F) (hw:Fwd L X mode s K F (movesX L X mode s).length):Df L X mode s0 K (Z++[s]) (Z++[s]) O F :=
 ⟨h.nodup,h.first,h.reach,h.split,h.zo,fun x hx t ht=>by
  rcases List.mem_append.mp hx with hx | hx
  ·exact h.next x hx t ht
  ·rw [List.mem_singleton.mp hx] at ht
   obtain ⟨mv,h1,h2,h3⟩:=mem_nx.mp ht
   obtain ⟨j,hj,rfl⟩:=mv_getD h1
   rw [← h2] at h3 ⊢
   exact (hw j hj).2 h3,h.fin,fun x hx mv h1 h2=>by
  rcases List.mem_append.mp hx with hx | hx
  ·exact h.fall x hx mv h1 h2
  ·rw [List.mem_singleton.mp hx] at h1 h2 ⊢
   obtain ⟨j,hj,rfl⟩:=mv_getD h1
   exact (hw j hj).1 h2⟩
theorem Df.whole (h:Df L X mode s0 K Z Z [] F):∀ s,s∈Z↔Rch (nxX L X mode) s0 s:=by
 have hz:∀ s,s∈K↔s∈Z:=fun s=>by rw [h.split s]; simp
 refine fun s=>⟨fun hs=>h.reach s ((hz s).2 hs),fun hs=>?_⟩
 induction hs with
 | base=>exact (hz _).1 h.first
 | step _ ht ih=>exact (hz _).1 (h.next _ ih _ ht)
def outcX (L:Nat→Nat) (X:Nat→Nat→Nat→Int) (mode:Int) (Z F:List Sx) (o:Oc):Prop :=
 (∃ s,s∈Z∧movesX L X mode s=[]∧o=⟨if endedX L s then 0 else 2,s.words,s.prints⟩)∨∃ f,f∈F∧o=⟨1,[],f.prints⟩
theorem Df.outs (h:Df L X mode s0 K Z Z [] F) (o:Oc):outcX L X mode Z F o↔∃ s,Rch (nxX L X mode) s0 s∧o∈outsX L X mode s:=by
 constructor
 ·rintro (⟨s,hs,hm,rfl⟩ | ⟨f,hf,rfl⟩)
  ·refine ⟨s,(h.whole s).1 hs,?_⟩
   rw [outs_none hm]
   simp
  ·obtain ⟨s,mv,h1,h2,h3,h4⟩:=h.fin f hf
   refine ⟨s,(h.whole s).1 h1,?_⟩
   rw [← h3] at h4 ⊢
   exact fell_out h2 h4
 ·rintro ⟨s,hs,ho⟩
  have hz:=(h.whole s).2 hs
  by_cases hm:movesX L X mode s=[]
  ·rw [outs_none hm] at ho
   exact Or.inl ⟨s,hz,hm,List.mem_singleton.mp ho⟩
  ·unfold outsX at ho
   rw [if_neg hm,List.nil_append] at ho
   obtain ⟨mv,h1,h2⟩:=List.mem_filterMap.mp ho
   cases hf:(doX X mode s mv.toNat).fell with
   | false=>rw [hf] at h2; cases h2
   | true =>
    rw [hf] at h2
    rw [← Option.some.inj h2]
    exact Or.inr ⟨_,h.fall s hz mv h1 hf,rfl⟩
theorem Df.told (h:Df L X mode s0 K Z Z [] F) {l:List Oc} {mx:Nat} (hs:SortedO l) (hl:∀ o,o∈l↔outcX L X mode Z F o) (hk:K.length≤mx):Told (nxX L X mode) (outsX L X mode) s0 mx false l:=by
 refine Or.inr ⟨rfl,hs,fun o=>(hl o).trans (h.outs o),K,h.nodup,fun s=>⟨h.reach s,fun hr=>?_⟩,hk⟩
 rw [h.split s]
 exact Or.inl ((h.whole s).2 hr)
theorem Df.full (h:Df L X mode s0 K P Z O F) {mx:Nat} (l:List Oc) (hk:mx < K.length):Told (nxX L X mode) (outsX L X mode) s0 mx true l:=Or.inl ⟨rfl,K,h.nodup,h.reach,hk⟩
end
end
section
open Go.RowKit
theorem ins_end {o:Oc}:∀ {l:List Oc},(∀ x,x∈l→aheadO x o=true)→insO o l=l++[o]
 | [],_=>rfl
 | a::l,h=>by
  have h1:=h a (by simp)
  unfold insO
  rw [ahead_asym h1,h1,ins_end (fun x hx=>h x (by simp [hx]))]
  rfl
theorem ins_mid {o x:Oc} {r:List Oc} (hx:aheadO o x=true):∀ {l:List Oc},(∀ y,y∈l→aheadO y o=true)→insO o (l++x::r)=l++o::x::r
 | [],_=>by
  show insO o (x::r)=_
  unfold insO
  rw [hx]
  rfl
 | a::l,h=>by
  have h1:=h a (by simp)
  show insO o (a::(l++x::r))=_
  unfold insO
  rw [ahead_asym h1,h1,ins_mid hx (fun y hy=>h y (by simp [hy]))]
  rfl
theorem ins_in {o:Oc} {r:List Oc}:∀ {l:List Oc},(∀ y,y∈l→aheadO y o=true)→insO o (l++o::r)=l++o::r
 | [],_=>by
  show insO o (o::r)=_
  unfold insO
  rw [ahead_irr]
  rfl
 | a::l,h=>by
  have h1:=h a (by simp)
  show insO o (a::(l++o::r))=_
  unfold insO
  rw [ahead_asym h1,h1,ins_in (fun y hy=>h y (by simp [hy]))]
  rfl
def putK (o:Oc) (l:List Oc) (done:Bool) (k:Nat):List Oc:=if done then insO o (l.take k) else l.take k
structure PutI (o:Oc) (l:List Oc) (done:Bool) (k:Nat):Prop where
 no:done=false→∀ x,x∈l.take k→aheadO x o=true
 yes:done=true→∃ l1 x l2,l.take k=l1++x::l2∧aheadO o x=true∧∀ y,y∈l1→aheadO y o=true
theorem PutI.start (o:Oc) (l:List Oc):PutI o l false 0:=⟨fun _ x hx=>(by cases hx),fun h=>(by cases h)⟩
section
variable {o:Oc} {l:List Oc} {k:Nat}
theorem take_next (hk:k < l.length):l.take (k+1)=l.take k++[l.getD k default]:=by
 rw [List.take_add_one,List.getElem?_eq_getElem hk,List.getD_eq_getElem?_getD,List.getElem?_eq_getElem hk]
 rfl
theorem PutI.later {done:Bool} (h:PutI o l done k) (hk:k < l.length) (hd:done=true):PutI o l true (k+1)∧putK o l true (k+1)=putK o l done k++[l.getD k default]:=by
 obtain ⟨l1,x,l2,e,hx,hy⟩:=h.yes hd
 have e2:l.take (k+1)=l1++x::(l2++[l.getD k default]):=by rw [take_next hk,e]; simp
 refine ⟨⟨fun h=>(by cases h),fun _=>⟨l1,x,_,e2,hx,hy⟩⟩,?_⟩
 unfold putK
 rw [if_pos rfl,if_pos hd,e2,e,ins_mid hx hy,ins_mid hx hy]
 simp
theorem PutI.now (h:PutI o l false k) (hk:k < l.length) (ho:aheadO o (l.getD k default)=true):PutI o l true (k+1)∧putK o l true (k+1)=putK o l false k++[o]++[l.getD k default]:=by
 refine ⟨⟨fun h=>(by cases h),fun _=>⟨l.take k,_,[],take_next hk,ho,h.no rfl⟩⟩,?_⟩
 unfold putK
 rw [if_pos rfl,if_neg (by simp),take_next hk,ins_mid ho (h.no rfl)]
 simp
theorem PutI.skip (h:PutI o l false k) (hk:k < l.length) (ho:aheadO (l.getD k default) o=true):PutI o l false (k+1)∧putK o l false (k+1)=putK o l false k++[l.getD k default]:=by
 refine ⟨⟨fun _ x hx=>?_,fun h=>by cases h⟩,?_⟩
 ·rw [take_next hk] at hx
  rcases List.mem_append.mp hx with hx | hx
  ·exact h.no rfl x hx
  ·rw [List.mem_singleton.mp hx]; exact ho
 ·unfold putK
  rw [if_neg (by simp),if_neg (by simp),take_next hk]
theorem PutI.there {done:Bool} (h:PutI o l done k) (hs:SortedO l) (hk:k < l.length) (h1:aheadO o (l.getD k default)=false) (h2:aheadO (l.getD k default) o=false):insO o l=l:=by
 have e:=ahead_tri h1 h2
 have hd:l=l.take k++l.getD k default::l.drop (k+1):=by
  have:=List.take_append_drop (k+1) l
  rw [take_next hk,List.append_assoc] at this
  exact this.symm
 cases done with
 | false =>
  rw [hd,← e]
  exact ins_in (h.no rfl)
 | true =>
  obtain ⟨l1,x,l2,e3,hx,hy⟩:=h.yes rfl
  have hp:SortedO l:=hs
  rw [hd,e3,SortedO,List.pairwise_append] at hp
  have:=hp.2.2 x (by simp) (l.getD k default) (by simp)
  rw [← e,ahead_asym hx] at this
  cases this
theorem PutI.last {done:Bool} (h:PutI o l done l.length):insO o l=if done then putK o l true l.length else putK o l false l.length++[o]:=by
 cases done with
 | false =>
  have:=h.no rfl
  rw [List.take_length] at this
  rw [if_neg (by simp),ins_end this]
  unfold putK
  rw [if_neg (by simp),List.take_length]
 | true =>
  rw [if_pos rfl]
  unfold putK
  rw [if_pos rfl,List.take_length]
end
end
end Go.Proofs.YtelckcpjmekgcacGreatDoor
