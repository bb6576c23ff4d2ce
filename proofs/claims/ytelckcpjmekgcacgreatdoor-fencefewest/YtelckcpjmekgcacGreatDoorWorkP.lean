import Derived.Test.YtelckcpjmekgcacGreatDoorRDo2
import Derived.LoopN
namespace Go.Proofs.YtelckcpjmekgcacGreatDoor
set_option maxHeartbeats 3200000
set_option maxRecDepth 100000
section
open Go.RowKit
theorem orderOf4_any (op a b c:Int) (w:World) :
  Calls Tryz.prog 146 #[.int .i64 op,ints3 a b c] w fun e w'=>e=.returned (ints4 op a b c)∧Below w.heap.size w w':=by
 go_enter Tryz.func146,Tryz.ntmps146
 go_wp2
 exact bodyPost_ret (v:=ints4 op a b c) (by simp [results,Tryz.results146,go_sem]) rfl ⟨rfl,((Below.refl _ _).alloc (Nat.le_refl _) _).alloc (by simp) _⟩
theorem look4 {P:Program} {mty kt et:TypeId} (hm:P.underlying mty=some (.map kt et)) (hk:P.underlying kt=some (.int .i64)) (w:World) (r c:Nat) (es:Array MapEntry) (k:Int) (j:Nat) (v:Value)
  (hb:w.heap[r]? = some (.map es c)) (hf:Instr.findNow (.int .i64) (.int .i64 k) es.toList 0=some (some (j,v))) :
  (Instr.lookup mty (.map (some r)) (.int .i64 k) false).run P w=.ok v w:=by
 have hc:(Instr.checkKey es.isEmpty 10000 kt (.int .i64 k)).run P w=.ok () w:=MapKept.run_checkKey hk (by simp [MapKept.IsKey]) _ 9999
 simp [Instr.lookup,run_underlying hm,MapKept.run_getObj_map hb,hc,MapKept.run_findKey hk hf,Result.andThen]
structure LdI (w:World) (B g cap mb:Nat) (l:List I4) (pl:Nat→Nat) (pa:Option Addr) (ps:List Int) (k:Nat) (W:World):Prop where
 own:OwnC W B (.slice (some ⟨g,0,none⟩) l.length cap) ((l.take k).map (ledO pl)++l.drop k)
 map:W.heap[mb]? = some (.map shapesArr 18)
 pls:SIs W pa ps
 grown:w.grownBy W (some g)
 lt:g < w.heap.size
 mbg:mb≠g
theorem led_list {l:List I4} {f:I4→I4} {k:Nat} (hk:k < l.length) (d:I4):((l.take k).map f++l.drop k).set k (f (l.getD k d))=(l.take (k+1)).map f++l.drop (k+1):=by
 apply List.ext_getElem?
 intro i
 have e:l.getD k d=l[k]:=by simp [List.getD,hk]
 rw [e]
 rcases Nat.lt_trichotomy i k with h | h | h
 ·rw [List.getElem?_set_ne (by omega),List.getElem?_append_left (by simp; omega),List.getElem?_append_left (by simp; omega)]
  simp [h,show i < k+1 by omega]
 ·subst h
  rw [List.getElem?_set_self (by simp; omega),List.getElem?_append_left (by simp; omega)]
  simp [hk]
 ·rw [List.getElem?_set_ne (by omega),List.getElem?_append_right (by simp; omega),List.getElem?_append_right (by simp; omega)]
  simp only [List.length_map,List.length_take,List.getElem?_drop]
  congr 1
  omega
theorem LdI.next {w W V:World} {B g cap mb:Nat} {l:List I4} {pl:Nat→Nat} {pa:Option Addr} {ps:List Int} {k:Nat} (h:LdI w B g cap mb l pl pa ps k W) (hk:k < l.length) (hb:Below W.heap.size W V) (hpg:∀ b o,pa=some ⟨b,o,none⟩→b≠g) {y:I4} (hy:y=ledO pl (l.getD k fenceI)) :
  LdI w B g cap mb l pl pa ps (k+1) ((((V.setCell ⟨g,k*4,none⟩ (.int .i64 y.1)).setCell ⟨g,k*4+1,none⟩ (.int .i64 y.2.1)).setCell ⟨g,k*4+2,none⟩ (.int .i64 y.2.2.1)).setCell ⟨g,k*4+3,none⟩ (.int .i64 y.2.2.2)):=by
 subst hy
 have hs:w.heap.size≤W.heap.size:=h.grown.size
 have hgl:=h.lt
 have e:∀ (Z:World) (q:Nat) (u:Value) (b:Nat),b≠g→(Z.setCell ⟨g,q,none⟩ u).heap[b]? = Z.heap[b]? := fun Z q u b hne=>Below.heap_setCell _ _ _ _ (fun x=>hne (by simpa using x))
 have hV:w.grownBy V (some g):=⟨hb.os.trans h.grown.os,hb.tape.trans h.grown.tape,hb.output.trans h.grown.output,Nat.le_trans hs hb.size,fun q hq hne=>(hb.block q (by omega)).trans (h.grown.block q hq hne)⟩
 refine ⟨?_,?_,fun i hi=>?_,⟨hV.os,hV.tape,hV.output,by simpa using hV.size,fun q hq hne=>?_⟩,hgl,h.mbg⟩
 ·have h1:=h.own.below hb
  unfold OwnC at h1 ⊢
  have hlen:((l.take k).map (ledO pl)++l.drop k).length=l.length:=by simp; omega
  have hlen2:((l.take (k+1)).map (ledO pl)++l.drop (k+1)).length=l.length:=by simp; omega
  rw [hlen] at h1
  rw [hlen2,← led_list hk fenceI,← cellsT_set (by rw [hlen]; exact hk)]
  exact fam_put (fam_put (fam_put (fam_put h1 rfl _ _) rfl _ _) rfl _ _) rfl _ _
 ·have hne:=h.mbg
  rw [e _ _ _ _ hne,e _ _ _ _ hne,e _ _ _ _ hne,e _ _ _ _ hne,← h.map]
  exact hb.block _ (by
   rcases Nat.lt_or_ge mb W.heap.size with h1 | h1
   ·exact h1
   ·have:=h.map; rw [Array.getElem?_eq_none h1] at this; cases this)
 ·obtain ⟨b,o,e1,h1⟩:=h.pls i hi
  have hne:=hpg b o e1
  refine ⟨b,o,e1,?_⟩
  have h2:=(hb.cell (lt_of_cell h1)).trans h1
  rw [World.cell?_of_block (w:=V) (by rw [e _ _ _ _ hne,e _ _ _ _ hne,e _ _ _ _ hne,e _ _ _ _ hne])]
  exact h2
 ·have hne':q≠g:=fun x=>hne (by rw [x])
  rw [e _ _ _ _ hne',e _ _ _ _ hne',e _ _ _ _ hne',e _ _ _ _ hne']
  exact hV.block q hq hne
theorem lead_any (w:World) (B g cap:Nat) (l:List I4) (pl:Nat→Nat) (pa:Option Addr) (pc:Nat) (ps:List Int) (hown:OwnC w B (.slice (some ⟨g,0,none⟩) l.length cap) l) (hps:SIs w pa ps) (hpg:∀ b o,pa=some ⟨b,o,none⟩→b≠g) (hpl:∀ i,i < ps.length→ps.getD i 0=(pl i:Int)) (hk:∀ x,x∈l→1≤x.1∧x.1≤18) (h14:∀ x,x∈l→x.1=14→0≤x.2.1∧x.2.1 < ps.length) (h15:∀ x,x∈l→x.1=15→0≤x.2.2.1∧x.2.2.1 < ps.length) (hl:l.length≤1000000) :
  Calls Tryz.prog 129 #[.slice (some ⟨g,0,none⟩) l.length cap,.slice pa ps.length pc] w fun e w'=>e=.returned (.tuple #[])∧OwnC w' B (.slice (some ⟨g,0,none⟩) l.length cap) (l.map (ledO pl))∧w.grownBy w' (some g):=by
 obtain ⟨n,hn⟩:∃ n,l.length=n:=⟨_,rfl⟩
 obtain ⟨pn,hpn'⟩:∃ n,ps.length=n:=⟨_,rfl⟩
 have HN:Hid (l.length=n∧ps.length=pn):=⟨hn,hpn'⟩
 have hgl:g < w.heap.size:=lt_of_owns hown rfl
 have HST:Hid (∀ w1,w1.heap[w.heap.size+1]? = some (.map shapesArr 18)→Below w.heap.size w w1→LdI w B g cap (w.heap.size+1) l pl pa ps 0 w1):=fun w1 h1 h2=>⟨by simpa using hown.below h2,h1,hps.below h2,⟨h2.os,h2.tape,h2.output,h2.size,fun k hk _=>h2.block k hk⟩,hgl,by omega⟩
 have HPG:=hiD hpg
 have HPL:=hiD hpl
 have HK:=hiD hk
 have H14:=hiD h14
 have H15:=hiD h15
 rw [hn,hpn']
 rw [hn] at hl
 clear hown hps hpg hpl hk h14 h15 hn hpn'
 go_enter Tryz.func129,Tryz.ntmps129
 go_wp2_with (first | (go_at_call 39; refine (shapes_some _).mono ?_; rintro e w1 ⟨rfl,hmap,hb1⟩))
 have HS:=hiD (HST.out w1 hmap hb1)
 clear HST hmap hb1
 go_loopw [13] (fun i wr=>∃ k:Nat,k≤n∧i=.int .i64 k∧Hid (LdI w B g cap (w.heap.size+1) l pl pa ps k wr)) (fun i _=>n - (intOf i).toNat)
 case atStart=>exact ⟨0,Nat.zero_le _,rfl,HS⟩
 case round =>
  obtain ⟨k,hk,rfl,HL⟩:=hrel
  clear HS
  by_cases hlt:k < n
  ·obtain ⟨x,hx⟩:∃ x,l.getD k fenceI=x:=⟨_,rfl⟩
   obtain ⟨op,a,b,c⟩:=x
   have hkl:k < l.length:=by have:=HN.out.1; omega
   have hmem:(op,a,b,c)∈l:=by rw [← hx,List.getD_eq_getElem?_getD,List.getElem?_eq_getElem hkl]; exact List.getElem_mem hkl
   have hcur:((l.take k).map (ledO pl)++l.drop k).getD k fenceI=(op,a,b,c):=by
    rw [← hx]
    simp [List.getD,hkl,Nat.le_of_lt hkl]
   have hclen:k < ((l.take k).map (ledO pl)++l.drop k).length:=by simp; omega
   obtain ⟨y0,y1,y2,y3⟩:=cellsT_at hclen fenceI
   rw [hcur] at y0 y1 y2 y3
   have c0:=fam_cell HL.out.own (g:=g) rfl y0
   have c1:=fam_cell HL.out.own (g:=g) rfl y1
   have c2:=fam_cell HL.out.own (g:=g) rfl y2
   have c3:=fam_cell HL.out.own (g:=g) rfl y3
   have HX:Hid (l.getD k fenceI=(op,a,b,c)∧(op,a,b,c)∈l∧k < l.length):=⟨hx,hmem,hkl⟩
   clear hx hmem hcur hclen y0 y1 y2 y3 hkl
   simp only at c0 c1 c2 c3
   obtain ⟨j,x,y,z,hkd,hj⟩:=find_in (HK.out _ HX.out.2.1)
   have hsz:g < wr.heap.size:=by have:=HL.out.grown.size; have:=HL.out.lt; omega
   have HLK:Hid (∀ V,V.heap[w.heap.size+1]? = wr.heap[w.heap.size+1]? → (Instr.lookup 85 (.map (some (w.heap.size+1))) (.int .i64 op) false).run Tryz.prog V=.ok (.agg #[.string (nm op),.int .i64 x,.int .i64 y,.int .i64 z]) V):=fun V hV=>by
    exact look4 Tryz.underlying85 Tryz.underlying3 V _ 18 shapesArr op j _ (hV.trans HL.out.map) hj
   clear hj
   have hmbl:w.heap.size+1 < wr.heap.size:=by
    rcases Nat.lt_or_ge (w.heap.size+1) wr.heap.size with h1 | h1
    ·exact h1
    ·have:=HL.out.map; rw [Array.getElem?_eq_none h1] at this; cases this
   have hfd:∀ W,(Instr.field 145 (.agg #[.string (nm op),.int .i64 x,.int .i64 y,.int .i64 z]) 1).run Tryz.prog W=.ok (.agg #[.int .i64 x,.int .i64 y,.int .i64 z]) W:=fun _=>by kernel_rfl
   have i0:∀ W,(Instr.index 143 (.agg #[.int .i64 x,.int .i64 y,.int .i64 z]) (.int .i64 0)).run Tryz.prog W=.ok (.int .i64 x) W:=fun _=>by kernel_rfl
   have i1:∀ W,(Instr.index 143 (.agg #[.int .i64 x,.int .i64 y,.int .i64 z]) (.int .i64 1)).run Tryz.prog W=.ok (.int .i64 y) W:=fun _=>by kernel_rfl
   have i2:∀ W,(Instr.index 143 (.agg #[.int .i64 x,.int .i64 y,.int .i64 z]) (.int .i64 2)).run Tryz.prog W=.ok (.int .i64 z) W:=fun _=>by kernel_rfl
   have HCF:Hid (∀ V,Below wr.heap.size wr V→(V.cell? ⟨g,k*4,none⟩=some (.int .i64 op)∧V.cell? ⟨g,k*4+1,none⟩=some (.int .i64 a)∧V.cell? ⟨g,k*4+2,none⟩=some (.int .i64 b)∧V.cell? ⟨g,k*4+3,none⟩=some (.int .i64 c))∧∀ q,V.frozen? ⟨g,q,none⟩=false):=fun V hV=>⟨⟨(hV.cell (p:=⟨g,k*4,none⟩) hsz).trans c0,(hV.cell (p:=⟨g,k*4+1,none⟩) hsz).trans c1,(hV.cell (p:=⟨g,k*4+2,none⟩) hsz).trans c2,(hV.cell (p:=⟨g,k*4+3,none⟩) hsz).trans c3⟩,fun q=>fam_frozen (HL.out.own.below hV) rfl q⟩
   have HNX:Hid (∀ V y,Below wr.heap.size wr V→y=ledO pl (op,a,b,c)→LdI w B g cap (w.heap.size+1) l pl pa ps (k+1) ((((V.setCell ⟨g,k*4,none⟩ (.int .i64 y.1)).setCell ⟨g,k*4+1,none⟩ (.int .i64 y.2.1)).setCell ⟨g,k*4+2,none⟩ (.int .i64 y.2.2.1)).setCell ⟨g,k*4+3,none⟩ (.int .i64 y.2.2.2))):=fun V y hV hy=>HL.out.next HX.out.2.2 hV HPG.out (by rw [HX.out.1]; exact hy)
   have hcls:op=14∨op=15∨(op≠14∧op≠15):=by omega
   rcases hcls with rfl | rfl | ⟨hn14,hn15⟩
   ·obtain ⟨rfl,rfl,rfl⟩:x=4∧y=0∧z=0:=by simpa [kd,eq_comm] using hkd
    clear hkd
    obtain ⟨q,rfl,hq⟩:=toN (n:=ps.length) (H14.out _ HX.out.2.1 rfl)
    obtain ⟨pb,po,rfl,hp0⟩:=HL.out.pls q hq
    rw [HPL.out q hq] at hp0
    have hqn:q < pn:=by have:=HN.out.2; omega
    have hpb:pb < wr.heap.size:=lt_of_cell hp0
    have HPC:Hid (∀ V,Below wr.heap.size wr V→V.cell? ⟨pb,po+q,none⟩=some (.int .i64 (pl q))):=fun V hV=>(hV.cell (p:=⟨pb,po+q,none⟩) hpb).trans hp0
    clear hp0
    go_wp2_with (first | (go_at_call 72; refine (numbersOf_any _ _ _ _ _).mono ?_; rintro e w2 ⟨rfl,hb2⟩; have hz2:wr.heap.size < w2.heap.size:=(by have:=hb2.size; simp at this; omega); have b60:w2.cell? ⟨wr.heap.size,0,none⟩=some (.int .i64 14):=(hb2.cell (p:=⟨wr.heap.size,0,none⟩) (by simp)).trans (by go_simp); have hbw:Below wr.heap.size wr w2:=((Below.refl _ _).alloc (Nat.le_refl _) _).trans (hb2.mono (by simp)); have hlk:=fun o=>HLK.out (w2.alloc o) ((Below.heap_alloc _ _ _ (Nat.lt_of_lt_of_le hmbl hbw.size)).trans (hbw.block _ hmbl)); have hpc:=HPC.out w2 hbw; have hpb2:pb < w2.heap.size:=Nat.lt_of_lt_of_le hpb hbw.size; clear c0 c1 c2 c3))
    refine wp_loop_rounds 4 ?_
    iterate 4 (rw [rounds_succ]; go_wp2_with (first | (go_at_call 146; refine (orderOf4_any _ _ _ _ _).mono ?_; rintro e w3 ⟨rfl,hb3⟩; have hbw3:Below wr.heap.size wr w3:=(hbw.alloc hbw.size _).trans (hb3.mono (by have:=hbw.size; simp; omega)); obtain ⟨⟨d0,d1,d2,d3⟩,df⟩:=HCF.out w3 hbw3)))
    go_roundw
    case rel=>exact ⟨k+1,by omega,by go_num,HNX.out w3 (14,(pl q:Int),b,c) hbw3 (by unfold ledO; simp)⟩
    case measure=>simp [intOf]; omega
   ·obtain ⟨rfl,rfl,rfl⟩:x=1∧y=4∧z=0:=by simpa [kd,eq_comm] using hkd
    clear hkd
    obtain ⟨q,rfl,hq⟩:=toN (n:=ps.length) (H15.out _ HX.out.2.1 rfl)
    obtain ⟨pb,po,rfl,hp0⟩:=HL.out.pls q hq
    rw [HPL.out q hq] at hp0
    have hqn:q < pn:=by have:=HN.out.2; omega
    have hpb:pb < wr.heap.size:=lt_of_cell hp0
    have HPC:Hid (∀ V,Below wr.heap.size wr V→V.cell? ⟨pb,po+q,none⟩=some (.int .i64 (pl q))):=fun V hV=>(hV.cell (p:=⟨pb,po+q,none⟩) hpb).trans hp0
    clear hp0
    go_wp2_with (first | (go_at_call 72; refine (numbersOf_any _ _ _ _ _).mono ?_; rintro e w2 ⟨rfl,hb2⟩; have hz2:wr.heap.size < w2.heap.size:=(by have:=hb2.size; simp at this; omega); have b60:w2.cell? ⟨wr.heap.size,0,none⟩=some (.int .i64 15):=(hb2.cell (p:=⟨wr.heap.size,0,none⟩) (by simp)).trans (by go_simp); have hbw:Below wr.heap.size wr w2:=((Below.refl _ _).alloc (Nat.le_refl _) _).trans (hb2.mono (by simp)); have hlk:=fun o=>HLK.out (w2.alloc o) ((Below.heap_alloc _ _ _ (Nat.lt_of_lt_of_le hmbl hbw.size)).trans (hbw.block _ hmbl)); have hpc:=HPC.out w2 hbw; have hpb2:pb < w2.heap.size:=Nat.lt_of_lt_of_le hpb hbw.size; clear c0 c1 c2 c3))
    refine wp_loop_rounds 4 ?_
    iterate 4 (rw [rounds_succ]; go_wp2_with (first | (go_at_call 146; refine (orderOf4_any _ _ _ _ _).mono ?_; rintro e w3 ⟨rfl,hb3⟩; have hbw3:Below wr.heap.size wr w3:=(hbw.alloc hbw.size _).trans (hb3.mono (by have:=hbw.size; simp; omega)); obtain ⟨⟨d0,d1,d2,d3⟩,df⟩:=HCF.out w3 hbw3)))
    go_roundw
    case rel=>exact ⟨k+1,by omega,by go_num,HNX.out w3 (15,a,(pl q:Int),c) hbw3 (by unfold ledO; simp)⟩
    case measure=>simp [intOf]; omega
   ·have hne4:(x == 4)=false∧(y == 4)=false∧(z == 4)=false:=by
     rcases op_cases op with h1 | rfl | rfl | rfl | rfl | rfl | rfl | rfl | rfl | rfl | rfl | rfl | rfl | rfl | rfl | rfl | rfl | rfl | rfl
     ·rw [kd_out h1] at hkd; cases hkd
     all_goals first
      | exact absurd rfl hn14
      | exact absurd rfl hn15
      | (simp only [kd] at hkd; simp at hkd; obtain ⟨rfl,rfl,rfl⟩:=hkd; decide)
    obtain ⟨hx4,hy4,hz4⟩:=hne4
    go_wp2_with (first | (go_at_call 72; refine (numbersOf_any _ _ _ _ _).mono ?_; rintro e w2 ⟨rfl,hb2⟩; have hz2:wr.heap.size < w2.heap.size:=(by have:=hb2.size; simp at this; omega); have b60:w2.cell? ⟨wr.heap.size,0,none⟩=some (.int .i64 op):=(hb2.cell (p:=⟨wr.heap.size,0,none⟩) (by simp)).trans (by go_simp); have hbw:Below wr.heap.size wr w2:=((Below.refl _ _).alloc (Nat.le_refl _) _).trans (hb2.mono (by simp)); have hlk:=fun o=>HLK.out (w2.alloc o) ((Below.heap_alloc _ _ _ (Nat.lt_of_lt_of_le hmbl hbw.size)).trans (hbw.block _ hmbl)); clear c0 c1 c2 c3))
    refine wp_loop_rounds 4 ?_
    iterate 4 (rw [rounds_succ]; go_wp2_with (first | (go_at_call 146; refine (orderOf4_any _ _ _ _ _).mono ?_; rintro e w3 ⟨rfl,hb3⟩; have hbw3:Below wr.heap.size wr w3:=(hbw.alloc hbw.size _).trans (hb3.mono (by have:=hbw.size; simp; omega)); obtain ⟨⟨d0,d1,d2,d3⟩,df⟩:=HCF.out w3 hbw3)))
    go_roundw
    case rel=>exact ⟨k+1,by omega,by go_num,HNX.out w3 (op,a,b,c) hbw3 (by unfold ledO; simp only [if_neg hn14,if_neg hn15])⟩
    case measure=>simp [intOf]; omega
  ·go_wp2
   go_end0
   refine ⟨rfl,?_,HL.out.grown⟩
   have h:=HL.out.own
   have e:k=l.length:=by have:=HN.out.1; omega
   rw [e,List.take_length,List.drop_length,List.append_nil,HN.out.1] at h
   exact h
theorem lead_nil (w:World) (pa:Option Addr) (pn pc:Nat):Calls Tryz.prog 129 #[nilV,.slice pa pn pc] w fun e w'=>e=.returned (.tuple #[])∧Below w.heap.size w w':=by
 go_enter Tryz.func129,Tryz.ntmps129
 go_wp2_with (first | (go_at_call 39; refine (shapes_some _).mono ?_; rintro e w1 ⟨rfl,hmap,hb1⟩))
 clear hmap
 go_loopw [13] (fun i wr=>i=.int .i64 0∧wr=w1) (fun _ _=>0)
 case atStart=>exact ⟨rfl,rfl⟩
 case round =>
  obtain ⟨rfl,rfl⟩:=hrel
  go_wp2
  go_end0
  exact ⟨rfl,hb1⟩
theorem lead_own (w:World) (B:Nat) (v:Value) (l:List I4) (pl:Nat→Nat) (pa:Option Addr) (pc:Nat) (ps:List Int) (hown:OwnC w B v l) (hps:SIs w pa ps) (hpg:∀ b o,pa=some ⟨b,o,none⟩→v.ownBlock≠some b) (hpl:∀ i,i < ps.length→ps.getD i 0=(pl i:Int)) (hk:∀ x,x∈l→1≤x.1∧x.1≤18) (h14:∀ x,x∈l→x.1=14→0≤x.2.1∧x.2.1 < ps.length) (h15:∀ x,x∈l→x.1=15→0≤x.2.2.1∧x.2.2.1 < ps.length) (hl:l.length≤1000000) :
  Calls Tryz.prog 129 #[v,.slice pa ps.length pc] w fun e w'=>e=.returned (.tuple #[])∧OwnC w' B v (l.map (ledO pl))∧w.grownBy w' v.ownBlock:=by
 rcases hown.2 with ⟨rfl,h0⟩ | ⟨g,cap,cur,rfl,_⟩
 ·have hnil:l=[]:=List.eq_nil_of_length_eq_zero h0
  subst hnil
  exact (lead_nil w pa ps.length pc).mono fun e w' ⟨h1,h2⟩=>⟨h1,hown.below h2,⟨h2.os,h2.tape,h2.output,h2.size,fun k hk _=>h2.block k hk⟩⟩
 ·exact lead_any w B g cap l pl pa pc ps hown hps (fun b o e x=>hpg b o e (by rw [x]; rfl)) hpl hk h14 h15 hl
end
section
open Go.RowKit
structure Oc where
 st:Int
 ws:List Int
 pr:List Int
deriving DecidableEq,Inhabited
def lexL:List Int→List Int→Bool
 | [],[]=>false
 | [],_::_=>true
 | _::_,[]=>false
 | a::l,b::r=>if a=b then lexL l r else decide (a < b)
def aheadO (a b:Oc):Bool:=if a.st≠b.st then decide (a.st < b.st) else if a.ws≠b.ws then lexL a.ws b.ws else lexL a.pr b.pr
theorem lex_irr:∀ l:List Int,lexL l l=false
 | []=>rfl
 | a::l=>by unfold lexL; rw [if_pos rfl]; exact lex_irr l
theorem lex_trans:∀ {a b c:List Int},lexL a b=true→lexL b c=true→lexL a c=true
 | [],_,[],h1,h2=>by
  rename_i b
  cases b with
  | nil=>cases h1
  | cons x r=>cases h2
 | [],_,_::_,_,_=>rfl
 | _::_,[],_,h1,_=>by cases h1
 | _::_,_::_,[],_,h2=>by cases h2
 | x::a,y::b,z::c,h1,h2=>by
  unfold lexL at h1 h2 ⊢
  by_cases e1:x=y
  ·rw [if_pos e1] at h1
   by_cases e2:y=z
   ·rw [if_pos e2] at h2
    rw [if_pos (e1.trans e2)]
    exact lex_trans h1 h2
   ·rw [if_neg e2] at h2
    rw [if_neg (by rw [e1]; exact e2),e1]
    exact h2
  ·rw [if_neg e1] at h1
   have h1:=of_decide_eq_true h1
   by_cases e2:y=z
   ·rw [if_neg (by rw [← e2]; exact e1),← e2]
    exact decide_eq_true h1
   ·rw [if_neg e2] at h2
    have h2:=of_decide_eq_true h2
    rw [if_neg (by omega)]
    exact decide_eq_true (by omega)
theorem lex_tri:∀ {a b:List Int},lexL a b=false→lexL b a=false→a=b
 | [],[],_,_=>rfl
 | [],_::_,h,_=>by cases h
 | _::_,[],_,h=>by cases h
 | x::a,y::b,h1,h2=>by
  unfold lexL at h1 h2
  by_cases e:x=y
  ·rw [if_pos e] at h1
   rw [if_pos e.symm] at h2
   rw [e,lex_tri h1 h2]
  ·rw [if_neg e] at h1
   rw [if_neg (fun h=>e h.symm)] at h2
   have h1:=of_decide_eq_false h1
   have h2:=of_decide_eq_false h2
   omega
theorem ahead_irr (a:Oc):aheadO a a=false:=by
 unfold aheadO
 rw [if_neg (by simp),if_neg (by simp)]
 exact lex_irr _
theorem ahead_trans {a b c:Oc} (h1:aheadO a b=true) (h2:aheadO b c=true):aheadO a c=true:=by
 unfold aheadO at *
 by_cases e1:a.st=b.st
 ·rw [if_neg (by simpa using e1)] at h1
  by_cases e2:b.st=c.st
  ·rw [if_neg (by simpa using e2)] at h2
   rw [if_neg (by rw [e1,e2]; simp)]
   by_cases w1:a.ws=b.ws
   ·rw [if_neg (by simpa using w1)] at h1
    by_cases w2:b.ws=c.ws
    ·rw [if_neg (by simpa using w2)] at h2
     rw [if_neg (by rw [w1,w2]; simp)]
     exact lex_trans h1 h2
    ·rw [if_pos w2] at h2
     rw [if_pos (by rw [w1]; exact w2),w1]
     exact h2
   ·rw [if_pos w1] at h1
    by_cases w2:b.ws=c.ws
    ·rw [if_pos (by rw [← w2]; exact w1),← w2]
     exact h1
    ·rw [if_pos w2] at h2
     have h3:=lex_trans h1 h2
     rw [if_pos (fun e=>by rw [e,lex_irr] at h3; cases h3)]
     exact h3
  ·rw [if_pos e2] at h2
   rw [if_pos (by rw [e1]; exact e2),e1]
   exact h2
 ·rw [if_pos e1] at h1
  have h1:=of_decide_eq_true h1
  by_cases e2:b.st=c.st
  ·rw [if_pos (by rw [← e2]; exact e1),← e2]
   exact decide_eq_true h1
  ·rw [if_pos e2] at h2
   have h2:=of_decide_eq_true h2
   rw [if_pos (by omega)]
   exact decide_eq_true (by omega)
theorem ahead_tri {a b:Oc} (h1:aheadO a b=false) (h2:aheadO b a=false):a=b:=by
 unfold aheadO at *
 by_cases e:a.st=b.st
 ·rw [if_neg (by simpa using e)] at h1
  rw [if_neg (by simpa using e.symm)] at h2
  have ew:a.ws=b.ws:=by
   by_cases w:a.ws=b.ws
   ·exact w
   ·rw [if_pos w] at h1
    rw [if_pos (fun h=>w h.symm)] at h2
    exact lex_tri h1 h2
  rw [if_neg (by simpa using ew)] at h1
  rw [if_neg (by simpa using ew.symm)] at h2
  have ep:=lex_tri h1 h2
  cases a; cases b
  simp only at e ew ep
  subst e ew ep
  rfl
 ·rw [if_pos e] at h1
  rw [if_pos (fun h=>e h.symm)] at h2
  have h1:=of_decide_eq_false h1
  have h2:=of_decide_eq_false h2
  omega
theorem ahead_asym {a b:Oc} (h:aheadO a b=true):aheadO b a=false:=by
 cases e:aheadO b a with
 | false=>rfl
 | true=>have:=ahead_trans h e; rw [ahead_irr] at this; cases this
def SortedO (l:List Oc):Prop:=l.Pairwise fun a b=>aheadO a b=true
theorem sorted_same:∀ {l r:List Oc},SortedO l→SortedO r→(∀ o,o∈l↔o∈r)→l=r
 | [],[],_,_,_=>rfl
 | [],b::r,_,_,h=>by have:=(h b).2 (by simp); cases this
 | a::l,[],_,_,h=>by have:=(h a).1 (by simp); cases this
 | a::l,b::r,hl,hr,h=>by
  rw [SortedO,List.pairwise_cons] at hl hr
  have ha:=(h a).1 (by simp)
  have hb:=(h b).2 (by simp)
  have e:a=b:=by
   rcases List.mem_cons.mp ha with e | ha
   ·exact e
   ·rcases List.mem_cons.mp hb with e | hb
    ·exact e.symm
    ·have h1:=hl.1 b hb
     have h2:=hr.1 a ha
     rw [ahead_asym h1] at h2
     cases h2
  subst e
  have hna:∀ {o},o∈l→o≠a:=fun ho e=>by
   have:=hl.1 _ ho
   rw [e,ahead_irr] at this
   cases this
  have hnr:∀ {o},o∈r→o≠a:=fun ho e=>by
   have:=hr.1 _ ho
   rw [e,ahead_irr] at this
   cases this
  rw [sorted_same (l:=l) (r:=r) hl.2 hr.2 (fun o=>⟨fun ho=>by
   rcases List.mem_cons.mp ((h o).1 (by simp [ho])) with e | e
   ·exact absurd e (hna ho)
   ·exact e,fun ho=>by
   rcases List.mem_cons.mp ((h o).2 (by simp [ho])) with e | e
   ·exact absurd e (hnr ho)
   ·exact e⟩)]
def insO (o:Oc):List Oc→List Oc
 | []=>[o]
 | a::l=>if aheadO o a then o::a::l else if aheadO a o then a::insO o l else a::l
theorem mem_insO {o x:Oc}:∀ {l:List Oc},x∈insO o l↔x=o∨x∈l
 | []=>by simp [insO]
 | a::l=>by
  unfold insO
  split
  ·simp
  ·split
   ·rw [List.mem_cons,mem_insO,List.mem_cons]
    constructor
    ·rintro (h | h | h)
     ·exact Or.inr (Or.inl h)
     ·exact Or.inl h
     ·exact Or.inr (Or.inr h)
    ·rintro (h | h | h)
     ·exact Or.inr (Or.inl h)
     ·exact Or.inl h
     ·exact Or.inr (Or.inr h)
   ·rename_i h1 h2
    have e:o=a:=ahead_tri (by simpa using h1) (by simpa using h2)
    subst e
    simp
theorem sorted_insO {o:Oc}:∀ {l:List Oc},SortedO l→SortedO (insO o l)
 | [],_=>List.pairwise_singleton _ _
 | a::l,h=>by
  unfold insO
  have h':=h
  rw [SortedO,List.pairwise_cons] at h'
  split
  ·rename_i h1
   refine List.pairwise_cons.mpr ⟨fun x hx=>?_,h⟩
   rcases List.mem_cons.mp hx with e | hx
   ·rw [e]; exact h1
   ·exact ahead_trans h1 (h'.1 x hx)
  ·split
   ·rename_i h1 h2
    refine List.pairwise_cons.mpr ⟨fun x hx=>?_,sorted_insO h'.2⟩
    rcases mem_insO.mp hx with e | hx
    ·rw [e]; exact h2
    ·exact h'.1 x hx
   ·exact h
section
variable {S:Type}
inductive Rch (nx:S→List S) (s0:S):S→Prop
 | base:Rch nx s0 s0
 | step {s t:S}:Rch nx s0 s→t∈nx s→Rch nx s0 t
theorem nodup_len [DecidableEq S]:∀ {l r:List S},l.Nodup→(∀ x,x∈l→x∈r)→l.length≤r.length
 | [],_,_,_=>Nat.zero_le _
 | a::l,r,hl,h=>by
  rw [List.nodup_cons] at hl
  have ha:a∈r:=h a (by simp)
  have h1:=nodup_len (l:=l) (r:=r.erase a) hl.2 (fun x hx=>by
   have hne:x≠a:=fun e=>hl.1 (e ▸ hx)
   exact (List.mem_erase_of_ne hne).mpr (h x (by simp [hx])))
  rw [List.length_erase_of_mem ha] at h1
  have:0 < r.length:=List.length_pos_of_mem ha
  simp only [List.length_cons]
  omega
def Told (nx:S→List S) (outs:S→List Oc) (s0:S) (mx:Nat) (full:Bool) (l:List Oc):Prop :=
 (full=true∧∃ K:List S,K.Nodup∧(∀ s,s∈K→Rch nx s0 s)∧mx < K.length)∨(full=false∧SortedO l∧(∀ o,o∈l↔∃ s,Rch nx s0 s∧o∈outs s)∧∃ K:List S,K.Nodup∧(∀ s,s∈K↔Rch nx s0 s)∧K.length≤mx)
theorem told_same [DecidableEq S] {nx:S→List S} {outs:S→List Oc} {s0:S} {mx:Nat} {f1 f2:Bool} {l1 l2:List Oc} (h1:Told nx outs s0 mx f1 l1) (h2:Told nx outs s0 mx f2 l2):f1=f2∧(f1=false→l1=l2):=by
 rcases h1 with ⟨e1,K1,n1,r1,c1⟩ | ⟨e1,s1,m1,K1,n1,r1,c1⟩ <;> rcases h2 with ⟨e2,K2,n2,r2,c2⟩ | ⟨e2,s2,m2,K2,n2,r2,c2⟩
 ·exact ⟨e1.trans e2.symm,fun h=>by rw [e1] at h; cases h⟩
 ·have:=nodup_len n1 (fun x hx=>(r2 x).2 (r1 x hx))
  omega
 ·have:=nodup_len n2 (fun x hx=>(r1 x).2 (r2 x hx))
  omega
 ·exact ⟨e1.trans e2.symm,fun _=>sorted_same s1 s2 (fun o=>(m1 o).trans (m2 o).symm)⟩
structure Wk (nx:S→List S) (outs:S→List Oc) (s0:S) (K:List S) (P:S→Prop) (E:Oc→Prop):Prop where
 nodup:K.Nodup
 first:s0∈K
 reach:∀ s,s∈K→Rch nx s0 s
 known:∀ s,P s→s∈K
 next:∀ s,P s→∀ t,t∈nx s→t∈K
 ends:∀ o,E o→∃ s,Rch nx s0 s∧o∈outs s
 all:∀ s,P s→∀ o,o∈outs s→E o
theorem Wk.whole {nx:S→List S} {outs:S→List Oc} {s0:S} {K:List S} {P:S→Prop} {E:Oc→Prop} (h:Wk nx outs s0 K P E) (hP:∀ s,s∈K→P s):(∀ s,s∈K↔Rch nx s0 s)∧∀ o,E o↔∃ s,Rch nx s0 s∧o∈outs s:=by
 have hr:∀ s,Rch nx s0 s→s∈K:=fun s hs=>by
  induction hs with
  | base=>exact h.first
  | step _ ht ih=>exact h.next _ (hP _ ih) _ ht
 exact ⟨fun s=>⟨h.reach s,hr s⟩,fun o=>⟨h.ends o,fun ⟨s,hs,ho⟩=>h.all s (hP s (hr s hs)) o ho⟩⟩
theorem Wk.told {nx:S→List S} {outs:S→List Oc} {s0:S} {K:List S} {P:S→Prop} {E:Oc→Prop} {mx:Nat} {l:List Oc} (h:Wk nx outs s0 K P E) (hP:∀ s,s∈K→P s) (hs:SortedO l) (hl:∀ o,o∈l↔E o) (hk:K.length≤mx):Told nx outs s0 mx false l:=by
 obtain ⟨h1,h2⟩:=h.whole hP
 exact Or.inr ⟨rfl,hs,fun o=>(hl o).trans (h2 o),K,h.nodup,h1,hk⟩
theorem Wk.full {nx:S→List S} {outs:S→List Oc} {s0:S} {K:List S} {P:S→Prop} {E:Oc→Prop} {mx:Nat} (l:List Oc) (h:Wk nx outs s0 K P E) (hk:mx < K.length):Told nx outs s0 mx true l:=Or.inl ⟨rfl,K,h.nodup,h.reach,hk⟩
end
end
section
open Go.RowKit
theorem do_1 (w:World) (B sb:Nat) (P:Pg) (v:Rl→Value) (s:Sx) (A:Nat→Option Addr) (L C:Nat→Nat) (X:Nat→Nat→Nat→Int) (m lk rg t:Nat) (mv:Int) (_h0:0≤mv) (_h1:mv≤1000) (hq:mv/8=t) (hr:mv % 8=0) (hx:Cx w B sb P v s A L C X m lk rg t) (hop:opT X s t 0=1) :
  Calls Tryz.prog 60 #[.pointer (some ⟨sb,0,none⟩),.int .i64 mv] w (DoQ B sb P v w (orderX P.mode (stepS s t) t 1 (opT X s t 1) (opT X s t 2) (opT X s t 3))):=by
 obtain ⟨n,tb,tc,rb,rc,pc,⟨htn,hn4,hpc4⟩,HPC,c5,HNX,HPRE⟩:=hx.pre
 have htl:t < s.ths.length:=by have:=hx.ho.ths; have:=hx.ht; omega
 have hrl:(thOf s t).regs.length=rg:=hx.ho.regs t hx.ht
 have hord:=hx.hc.ord t (thOf s t).pc hx.ht hx.hlt
 have hsz:=hx.hc.L4 t hx.ht
 have hrg2:=hx.hc.rg2
 change ordE rg m lk (L t) (opT X s t 0) (opT X s t 1) (opT X s t 2) (opT X s t 3)=0 at hord
 rw [hop] at hord
 rw [hop] at HNX
 obtain ⟨a,ea⟩:∃ x,opT X s t 1=x:=⟨_,rfl⟩
 obtain ⟨b,eb⟩:∃ x,opT X s t 2=x:=⟨_,rfl⟩
 obtain ⟨c,ec⟩:∃ x,opT X s t 3=x:=⟨_,rfl⟩
 rw [ea,eb,ec] at hord HNX ⊢
 clear ea eb ec
 obtain ⟨ia,rfl,ha⟩:=toN (ok_const hord)
 have HST:Hid (orderX P.mode (stepS s t) t 1 (ia:Int) b c=setR (stepS s t) t (ia:Int) (b)):=by
  show setR (stepS s t) t (ia:Int) _=_
  rfl
 have HX:=hiD hx
 clear hx hord hop hsz
 go_enter Tryz.func60,Tryz.ntmps60
 go_wp2_with fail
 refine Calls.mono HNX.out ?_
 rintro e w1 ⟨rfl,hb1⟩
 have HP:=HPRE.out w1 hb1
 have d5:=HP.c5
 have dp:=HP.cp
 have df:=HP.cf
 have dr:=HP.cr
 have nrt:=HP.nrt
 have ntr:=HP.ntr
 have lrb:=HP.lrb
 have ltb:=HP.ltb
 have fa:=HP.frz ia
 have wa:=HP.regW htl (r:=ia) (by omega)
 obtain ⟨VA,eA⟩:∃ x,getR s t (ia:Int)=x:=⟨_,rfl⟩
 rw [eA] at wa
 clear eA
 have HF:=hiD (HP.fin htl ia (b))
 clear HP HPRE HNX
 go_wp2
 go_end0
 refine ⟨rfl,v,?_⟩
 rw [HST.out]
 exact ⟨HF.out.1.alloc _,HF.out.2.alloc _⟩
theorem do_2 (w:World) (B sb:Nat) (P:Pg) (v:Rl→Value) (s:Sx) (A:Nat→Option Addr) (L C:Nat→Nat) (X:Nat→Nat→Nat→Int) (m lk rg t:Nat) (mv:Int) (_h0:0≤mv) (_h1:mv≤1000) (hq:mv/8=t) (hr:mv % 8=0) (hx:Cx w B sb P v s A L C X m lk rg t) (hop:opT X s t 0=2) :
  Calls Tryz.prog 60 #[.pointer (some ⟨sb,0,none⟩),.int .i64 mv] w (DoQ B sb P v w (orderX P.mode (stepS s t) t 2 (opT X s t 1) (opT X s t 2) (opT X s t 3))):=by
 obtain ⟨n,tb,tc,rb,rc,pc,⟨htn,hn4,hpc4⟩,HPC,c5,HNX,HPRE⟩:=hx.pre
 have htl:t < s.ths.length:=by have:=hx.ho.ths; have:=hx.ht; omega
 have hrl:(thOf s t).regs.length=rg:=hx.ho.regs t hx.ht
 have hord:=hx.hc.ord t (thOf s t).pc hx.ht hx.hlt
 have hsz:=hx.hc.L4 t hx.ht
 have hrg2:=hx.hc.rg2
 change ordE rg m lk (L t) (opT X s t 0) (opT X s t 1) (opT X s t 2) (opT X s t 3)=0 at hord
 rw [hop] at hord
 rw [hop] at HNX
 obtain ⟨a,ea⟩:∃ x,opT X s t 1=x:=⟨_,rfl⟩
 obtain ⟨b,eb⟩:∃ x,opT X s t 2=x:=⟨_,rfl⟩
 obtain ⟨c,ec⟩:∃ x,opT X s t 3=x:=⟨_,rfl⟩
 rw [ea,eb,ec] at hord HNX ⊢
 clear ea eb ec
 obtain ⟨⟨ia,rfl,ha⟩,⟨ib,rfl,hb⟩⟩:=by
  have h3:=ok_rr (by omega) hord
  exact (⟨toN h3.1,toN h3.2⟩:_∧_)
 have HST:Hid (orderX P.mode (stepS s t) t 2 (ia:Int) (ib:Int) c=setR (stepS s t) t (ia:Int) (getR s t (ib:Int))):=by
  show setR (stepS s t) t (ia:Int) _=_
  simp only [stepS_getR htl]
 obtain ⟨Vb,eb⟩:∃ x,getR s t (ib:Int)=x:=⟨_,rfl⟩
 have HVb:Hid (getR s t (ib:Int)=Vb):=eb
 rw [eb] at HST
 clear eb
 have HX:=hiD hx
 clear hx hord hop hsz
 go_enter Tryz.func60,Tryz.ntmps60
 go_wp2_with fail
 refine Calls.mono HNX.out ?_
 rintro e w1 ⟨rfl,hb1⟩
 have HP:=HPRE.out w1 hb1
 have d5:=HP.c5
 have dp:=HP.cp
 have df:=HP.cf
 have dr:=HP.cr
 have nrt:=HP.nrt
 have ntr:=HP.ntr
 have lrb:=HP.lrb
 have ltb:=HP.ltb
 have fa:=HP.frz ia
 have wa:=HP.regW htl (r:=ia) (by omega)
 have wb:=HP.regW htl (r:=ib) (by omega)
 rw [HVb.out] at wb
 obtain ⟨VA,eA⟩:∃ x,getR s t (ia:Int)=x:=⟨_,rfl⟩
 rw [eA] at wa
 clear eA
 have HF:=hiD (HP.fin htl ia (Vb))
 clear HP HPRE HNX
 go_wp2
 refine region_tail 9 (by kernel_rfl) (by kernel_rfl) ?_
 simp only [List.take_succ_cons,List.take_zero,List.drop_succ_cons,List.drop_zero]
 repeat still_step
 refine wpStill_nil ?_
 all_goals go_wp2
 all_goals go_end0
 all_goals refine ⟨rfl,v,?_⟩
 all_goals rw [HST.out]
 all_goals exact ⟨(HF.out.1.alloc _).drew,(HF.out.2.alloc _).drew⟩
theorem do_3 (w:World) (B sb:Nat) (P:Pg) (v:Rl→Value) (s:Sx) (A:Nat→Option Addr) (L C:Nat→Nat) (X:Nat→Nat→Nat→Int) (m lk rg t:Nat) (mv:Int) (_h0:0≤mv) (_h1:mv≤1000) (hq:mv/8=t) (hr:mv % 8=0) (hx:Cx w B sb P v s A L C X m lk rg t) (hop:opT X s t 0=3) :
  Calls Tryz.prog 60 #[.pointer (some ⟨sb,0,none⟩),.int .i64 mv] w (DoQ B sb P v w (orderX P.mode (stepS s t) t 3 (opT X s t 1) (opT X s t 2) (opT X s t 3))):=by
 obtain ⟨n,tb,tc,rb,rc,pc,⟨htn,hn4,hpc4⟩,HPC,c5,HNX,HPRE⟩:=hx.pre
 have htl:t < s.ths.length:=by have:=hx.ho.ths; have:=hx.ht; omega
 have hrl:(thOf s t).regs.length=rg:=hx.ho.regs t hx.ht
 have hord:=hx.hc.ord t (thOf s t).pc hx.ht hx.hlt
 have hsz:=hx.hc.L4 t hx.ht
 have hrg2:=hx.hc.rg2
 change ordE rg m lk (L t) (opT X s t 0) (opT X s t 1) (opT X s t 2) (opT X s t 3)=0 at hord
 rw [hop] at hord
 rw [hop] at HNX
 obtain ⟨a,ea⟩:∃ x,opT X s t 1=x:=⟨_,rfl⟩
 obtain ⟨b,eb⟩:∃ x,opT X s t 2=x:=⟨_,rfl⟩
 obtain ⟨c,ec⟩:∃ x,opT X s t 3=x:=⟨_,rfl⟩
 rw [ea,eb,ec] at hord HNX ⊢
 clear ea eb ec
 obtain ⟨⟨ia,rfl,ha⟩,⟨ib,rfl,hb⟩,⟨ic,rfl,hc⟩⟩:=by
  have h3:=ok_rrr (by omega) hord
  exact (⟨toN h3.1,toN h3.2.1,toN h3.2.2⟩:_∧_∧_)
 have HST:Hid (orderX P.mode (stepS s t) t 3 (ia:Int) (ib:Int) (ic:Int)=setR (stepS s t) t (ia:Int) (wrap64 (getR s t (ib:Int)+getR s t (ic:Int)))):=by
  show setR (stepS s t) t (ia:Int) _=_
  simp only [stepS_getR htl,IntWalk.i64_left]
 obtain ⟨Vb,eb⟩:∃ x,getR s t (ib:Int)=x:=⟨_,rfl⟩
 have HVb:Hid (getR s t (ib:Int)=Vb):=eb
 obtain ⟨Vc,ec⟩:∃ x,getR s t (ic:Int)=x:=⟨_,rfl⟩
 have HVc:Hid (getR s t (ic:Int)=Vc):=ec
 rw [eb,ec] at HST
 clear eb ec
 have HX:=hiD hx
 clear hx hord hop hsz
 go_enter Tryz.func60,Tryz.ntmps60
 go_wp2_with fail
 refine Calls.mono HNX.out ?_
 rintro e w1 ⟨rfl,hb1⟩
 have HP:=HPRE.out w1 hb1
 have d5:=HP.c5
 have dp:=HP.cp
 have df:=HP.cf
 have dr:=HP.cr
 have nrt:=HP.nrt
 have ntr:=HP.ntr
 have lrb:=HP.lrb
 have ltb:=HP.ltb
 have fa:=HP.frz ia
 have wa:=HP.regW htl (r:=ia) (by omega)
 have wb:=HP.regW htl (r:=ib) (by omega)
 rw [HVb.out] at wb
 have wc:=HP.regW htl (r:=ic) (by omega)
 rw [HVc.out] at wc
 obtain ⟨VA,eA⟩:∃ x,getR s t (ia:Int)=x:=⟨_,rfl⟩
 rw [eA] at wa
 clear eA
 have HF:=hiD (HP.fin htl ia (wrap64 (Vb+Vc)))
 clear HP HPRE HNX
 go_wp2
 refine region_tail 15 (by kernel_rfl) (by kernel_rfl) ?_
 simp only [List.take_succ_cons,List.take_zero,List.drop_succ_cons,List.drop_zero]
 repeat still_step
 refine wpStill_nil ?_
 all_goals go_wp2
 all_goals go_end0
 all_goals refine ⟨rfl,v,?_⟩
 all_goals rw [HST.out]
 all_goals exact ⟨(HF.out.1.alloc _).drew,(HF.out.2.alloc _).drew⟩
theorem do_4 (w:World) (B sb:Nat) (P:Pg) (v:Rl→Value) (s:Sx) (A:Nat→Option Addr) (L C:Nat→Nat) (X:Nat→Nat→Nat→Int) (m lk rg t:Nat) (mv:Int) (_h0:0≤mv) (_h1:mv≤1000) (hq:mv/8=t) (hr:mv % 8=0) (hx:Cx w B sb P v s A L C X m lk rg t) (hop:opT X s t 0=4) :
  Calls Tryz.prog 60 #[.pointer (some ⟨sb,0,none⟩),.int .i64 mv] w (DoQ B sb P v w (orderX P.mode (stepS s t) t 4 (opT X s t 1) (opT X s t 2) (opT X s t 3))):=by
 obtain ⟨n,tb,tc,rb,rc,pc,⟨htn,hn4,hpc4⟩,HPC,c5,HNX,HPRE⟩:=hx.pre
 have htl:t < s.ths.length:=by have:=hx.ho.ths; have:=hx.ht; omega
 have hrl:(thOf s t).regs.length=rg:=hx.ho.regs t hx.ht
 have hord:=hx.hc.ord t (thOf s t).pc hx.ht hx.hlt
 have hsz:=hx.hc.L4 t hx.ht
 have hrg2:=hx.hc.rg2
 change ordE rg m lk (L t) (opT X s t 0) (opT X s t 1) (opT X s t 2) (opT X s t 3)=0 at hord
 rw [hop] at hord
 rw [hop] at HNX
 obtain ⟨a,ea⟩:∃ x,opT X s t 1=x:=⟨_,rfl⟩
 obtain ⟨b,eb⟩:∃ x,opT X s t 2=x:=⟨_,rfl⟩
 obtain ⟨c,ec⟩:∃ x,opT X s t 3=x:=⟨_,rfl⟩
 rw [ea,eb,ec] at hord HNX ⊢
 clear ea eb ec
 obtain ⟨⟨ia,rfl,ha⟩,⟨ib,rfl,hb⟩,⟨ic,rfl,hc⟩⟩:=by
  have h3:=ok_rrr (by omega) hord
  exact (⟨toN h3.1,toN h3.2.1,toN h3.2.2⟩:_∧_∧_)
 have HST:Hid (orderX P.mode (stepS s t) t 4 (ia:Int) (ib:Int) (ic:Int)=setR (stepS s t) t (ia:Int) (wrap64 (getR s t (ib:Int) - getR s t (ic:Int)))):=by
  show setR (stepS s t) t (ia:Int) _=_
  simp only [stepS_getR htl,IntWalk.i64_left]
 obtain ⟨Vb,eb⟩:∃ x,getR s t (ib:Int)=x:=⟨_,rfl⟩
 have HVb:Hid (getR s t (ib:Int)=Vb):=eb
 obtain ⟨Vc,ec⟩:∃ x,getR s t (ic:Int)=x:=⟨_,rfl⟩
 have HVc:Hid (getR s t (ic:Int)=Vc):=ec
 rw [eb,ec] at HST
 clear eb ec
 have HX:=hiD hx
 clear hx hord hop hsz
 go_enter Tryz.func60,Tryz.ntmps60
 go_wp2_with fail
 refine Calls.mono HNX.out ?_
 rintro e w1 ⟨rfl,hb1⟩
 have HP:=HPRE.out w1 hb1
 have d5:=HP.c5
 have dp:=HP.cp
 have df:=HP.cf
 have dr:=HP.cr
 have nrt:=HP.nrt
 have ntr:=HP.ntr
 have lrb:=HP.lrb
 have ltb:=HP.ltb
 have fa:=HP.frz ia
 have wa:=HP.regW htl (r:=ia) (by omega)
 have wb:=HP.regW htl (r:=ib) (by omega)
 rw [HVb.out] at wb
 have wc:=HP.regW htl (r:=ic) (by omega)
 rw [HVc.out] at wc
 obtain ⟨VA,eA⟩:∃ x,getR s t (ia:Int)=x:=⟨_,rfl⟩
 rw [eA] at wa
 clear eA
 have HF:=hiD (HP.fin htl ia (wrap64 (Vb - Vc)))
 clear HP HPRE HNX
 go_wp2
 refine region_tail 15 (by kernel_rfl) (by kernel_rfl) ?_
 simp only [List.take_succ_cons,List.take_zero,List.drop_succ_cons,List.drop_zero]
 repeat still_step
 refine wpStill_nil ?_
 all_goals go_wp2
 all_goals go_end0
 all_goals refine ⟨rfl,v,?_⟩
 all_goals rw [HST.out]
 all_goals exact ⟨(HF.out.1.alloc _).drew,(HF.out.2.alloc _).drew⟩
end
end Go.Proofs.YtelckcpjmekgcacGreatDoor
