import Derived.Test.YtelckcpjmekgcacGreatDoorSpaceP
namespace Go.Proofs.YtelckcpjmekgcacGreatDoor
set_option maxHeartbeats 9600000
set_option maxRecDepth 100000
section
open Go.RowKit
theorem alloc_drew (w:World) (o:Obj):(w.alloc o).drew.heap[w.heap.size]? = some o:=heap_alloc_new w o
theorem cell_far4 {w:World} {b o b' o':Nat} {u v:Value} (h:w.cell? ⟨b,o,none⟩=some v) (hne:b≠b'):(w.setCell ⟨b',o',none⟩ u).cell? ⟨b,o,none⟩=some v:=by
 rw [World.cell?_of_block (w:=w) (Below.heap_setCell _ _ _ _ (fun x=>hne (by simpa using x)))]
 exact h
theorem raw_mem {b:Nat→List I4} {x:I4}:∀ {L:Nat},x∈rawR b L→∃ i,i < L∧x∈b i
 | 0,h=>by cases h
 | L+1,h=>by
  rw [rawR,List.mem_append] at h
  rcases h with h | h
  ·obtain ⟨i,h1,h2⟩:=raw_mem h
   exact ⟨i,by omega,h2⟩
  ·exact ⟨L,by omega,h⟩
attribute [local go_sem ↓] appS_eq in
theorem rewrite_any (w:World) (ca:Option Addr) (n cc:Nat) (wa:Option Addr) (words:List Int) (wc:Nat) (lk rg:Int) (fid:Nat) (caps:Array Value) (A:Nat→Option Addr) (L C:Nat→Nat) (X:Nat→Nat→Nat→Int) (b:Nat→Nat→List I4) (hw:SIs w wa words) (hnil:wa=none→words=[]∧wc=0) (hm:words.length≤64) (hp:PIn w ca n A L C X) (hn:n≤1000) (hL:∀ t,t < n→L t≤1000) (hbl:∀ t i,t < n→i < L t→(b t i).length≤2)
  (hk:∀ t i x,t < n→i < L t→x∈b t i→(1≤x.1∧x.1≤18)∧(x.1=14→0≤x.2.1∧x.2.1≤L t)∧(x.1=15→0≤x.2.2.1∧x.2.2.1≤L t))
  (hfn:∀ (xs:Array Value) (w:World),(callFunc fid xs).run Tryz.prog w=.ok (.enter fid xs) w)
  (hbec:∀ V t i,Below w.heap.size w V→t < n→i < L t→Calls Tryz.prog fid (#[.int .i64 (t:Int),.int .i64 (i:Int)]++caps) V fun e w'=>∃ sa c,e=.returned (.slice sa (b t i).length c)∧SrcL w' sa (cellsT (b t i))∧Below V.heap.size V w') :
  Calls Tryz.prog 104 #[prgV ca n cc wa words.length wc lk rg,.func (.func fid) #[] caps] w fun e w'=>∃ (cv uv:Value) (tv:List Value),e=.returned (.agg #[cv,uv,.int .i64 lk,.int .i64 rg])∧w'.ownsRow w.heap.size 35 1 cv n tv∧(∀ t,t < n→OwnC w' w.heap.size (tv.getD t nilV) (codeR (b t) (L t)))∧w'.ownsRow w.heap.size 3 1 uv words.length (intsV words)∧Below w.heap.size w w':=by
 obtain ⟨PB,hPB⟩:∃ o:Obj,o=.cells #[.slice ca n cc,.slice wa words.length wc,.int .i64 lk,.int .i64 rg] 25:=⟨_,rfl⟩
 obtain ⟨RB,hRB⟩:∃ o:Obj,o=.cells #[nilV,nilV,.int .i64 0,.int .i64 0] 25:=⟨_,rfl⟩
 obtain ⟨mw,hmw⟩:∃ k,words.length=k:=⟨_,rfl⟩
 have HCL:Hid (∀ V,Below w.heap.size w V→Calls Tryz.prog 48 #[.slice wa mw wc] V fun e w'=>∃ a cap,e=.returned (.slice a mw cap)∧Hid (w'.ownsRow V.heap.size 3 1 (.slice a mw cap) mw (intsV words)∧Below V.heap.size V w')):=fun V hV=>by
  have:=clone_any V wa words wc (hw.below hV) hnil (by omega)
  rw [hmw] at this
  exact this
 have hb0:Below w.heap.size w ((w.alloc PB).alloc RB):=((Below.refl _ _).alloc (Nat.le_refl _) _).alloc (by simp) _
 have hp0:((w.alloc PB).alloc RB).heap[w.heap.size]? = some PB:=box_later (heap_alloc_new _ _) _
 have HAT:Hid (∀ V,Below ((w.alloc PB).alloc RB).heap.size ((w.alloc PB).alloc RB) V→Below w.heap.size w V∧V.cell? ⟨w.heap.size,0,none⟩=some (.slice ca n cc)∧V.cell? ⟨w.heap.size,1,none⟩=some (.slice wa mw wc)∧V.cell? ⟨w.heap.size,2,none⟩=some (.int .i64 lk)∧V.cell? ⟨w.heap.size,3,none⟩=some (.int .i64 rg)):=fun V hb=>by
  have e1:=(hb.block w.heap.size (by simp; omega)).trans hp0
  rw [hPB] at e1
  rw [← hmw]
  exact ⟨hb0.trans (hb.mono hb0.size),box_cell e1 rfl,box_cell e1 rfl,box_cell e1 rfl,box_cell e1 rfl⟩
 have HRB:Hid (∀ V,Below ((w.alloc PB).alloc RB).heap.size ((w.alloc PB).alloc RB) V→V.heap[w.heap.size+1]? = some (.cells #[nilV,nilV,.int .i64 0,.int .i64 0] 25)):=fun V hb=>by
  rw [hb.block (w.heap.size+1) (by simp),← hRB]
  have:=heap_alloc_new (w.alloc PB) RB
  simpa using this
 obtain ⟨W0,hW0⟩:∃ V,(w.alloc PB).alloc RB=V:=⟨_,rfl⟩
 rw [hW0] at HRB
 rw [hW0] at HAT
 have hz0:w.heap.size+2=W0.heap.size:=by rw [← hW0]; simp
 have HW0:Hid ((w.alloc (.cells #[.slice ca n cc,.slice wa mw wc,.int .i64 lk,.int .i64 rg] 25)).alloc (.cells #[nilV,nilV,.int .i64 0,.int .i64 0] 25)=W0):=by rw [← hW0,hPB,hRB,hmw]; exact rfl
 obtain ⟨hw0,p0,p1,p2,p3⟩:=HAT.out W0 (Below.refl _ _)
 rw [hmw]
 have HMW:Hid (words.length=mw):=hmw
 have HPR:Hid (PIn w ca n A L C X):=hp
 have HBE:=hiD hbec
 have HKB:=hiD hk
 have HLB:=hiD (And.intro hL hbl)
 clear hPB hRB hb0 hp0 hW0 hw hnil hmw hw0 hp hbec hk hL hbl
 have HC1:Hid (Calls Tryz.prog 48 #[.slice wa mw wc] W0.drew fun e w'=>∃ a cap,e=.returned (.slice a mw cap)∧Hid (w'.ownsRow W0.heap.size 3 1 (.slice a mw cap) mw (intsV words)∧Below W0.heap.size W0 w')∧w'.cell? ⟨w.heap.size,0,none⟩=some (.slice ca n cc)∧w'.cell? ⟨w.heap.size,1,none⟩=some (.slice wa mw wc)∧w'.cell? ⟨w.heap.size,2,none⟩=some (.int .i64 lk)∧w'.cell? ⟨w.heap.size,3,none⟩=some (.int .i64 rg)):=by
  refine Calls.mono (HCL.out W0.drew (HAT.out _ (Below.refl _ _).drew).1) ?_
  rintro e w' ⟨a,cap,he,H1⟩
  have hb:Below W0.heap.size W0 w':=(Below.refl _ _).drew.trans H1.out.2
  exact ⟨a,cap,he,⟨H1.out.1,hb⟩,(HAT.out w' hb).2⟩
 have HC2:Hid (Calls Tryz.prog 48 #[.slice wa mw wc] (W0.alloc (.cells #[nilV,nilV,.int .i64 0,.int .i64 0] 25)).drew fun e w'=>∃ a cap,e=.returned (.slice a mw cap)∧Hid (w'.ownsRow (W0.heap.size+1) 3 1 (.slice a mw cap) mw (intsV words)∧Below W0.heap.size W0 w'∧w'.heap[W0.heap.size]? = some (.cells #[nilV,nilV,.int .i64 0,.int .i64 0] 25))∧(w'.cell? ⟨w.heap.size,0,none⟩=some (.slice ca n cc)∧w'.cell? ⟨w.heap.size,1,none⟩=some (.slice wa mw wc)∧w'.cell? ⟨w.heap.size,2,none⟩=some (.int .i64 lk)∧w'.cell? ⟨w.heap.size,3,none⟩=some (.int .i64 rg))∧(w'.cell? ⟨W0.heap.size,0,none⟩=some nilV∧w'.cell? ⟨W0.heap.size,1,none⟩=some nilV∧w'.cell? ⟨W0.heap.size,2,none⟩=some (.int .i64 0)∧w'.cell? ⟨W0.heap.size,3,none⟩=some (.int .i64 0))∧(∀ i,w'.frozen? ⟨W0.heap.size,i,none⟩=false)∧W0.heap.size < w'.heap.size):=by
  have hb0:Below W0.heap.size W0 (W0.alloc (.cells #[nilV,nilV,.int .i64 0,.int .i64 0] 25)).drew:=((Below.refl _ _).alloc (Nat.le_refl _) _).drew
  refine Calls.mono (HCL.out _ (HAT.out _ hb0).1) ?_
  rintro e w' ⟨a,cap,he,H1⟩
  have hz:W0.heap.size≤(W0.alloc (.cells #[nilV,nilV,.int .i64 0,.int .i64 0] 25)).drew.heap.size:=hb0.size
  have hb:Below W0.heap.size W0 w':=hb0.trans (H1.out.2.mono hz)
  have hq:w'.heap[W0.heap.size]? = some (.cells #[nilV,nilV,.int .i64 0,.int .i64 0] 25):=(H1.out.2.block _ (box_lt (alloc_drew W0 _))).trans (alloc_drew W0 _)
  exact ⟨a,cap,he,⟨own_low H1.out.1 (by have:(W0.alloc (.cells #[nilV,nilV,.int .i64 0,.int .i64 0] 25)).drew.heap.size=W0.heap.size+1:=World.size_alloc _ _; omega),hb,hq⟩,(HAT.out w' hb).2,⟨box_cell hq rfl,box_cell hq rfl,box_cell hq rfl,box_cell hq rfl⟩,fun i=>box_free hq,box_lt hq⟩
 clear HCL
 go_enter Tryz.func104,Tryz.ntmps104
 go_wp2
 rw [HW0.out]
 go_region_held3 (fun w'=>w'.cell? ⟨w.heap.size,0,none⟩=some (.slice ca n cc)∧w'.cell? ⟨w.heap.size,1,none⟩=some (.slice wa mw wc)∧w'.cell? ⟨w.heap.size,2,none⟩=some (.int .i64 lk)∧w'.cell? ⟨w.heap.size,3,none⟩=some (.int .i64 rg)) (refine ⟨?_,?_,?_,?_⟩ <;> (repeat (first | (with_reducible assumption) | (with_reducible refine cell_drw ?_) | (with_reducible refine cell_up ?_ _) | (with_reducible refine cell_far4 ?_ (by omega))))) ((go_at_call 48; first | (with_reducible refine Calls.mono HC1.out ?_; rintro e w1 ⟨a,cap,rfl,H1,j0,j1,j2,j3⟩) | (with_reducible refine Calls.mono HC2.out ?_; rintro e w1 ⟨a,cap,rfl,H1,⟨j0,j1,j2,j3⟩,⟨q0,q1,q2,q3⟩,qf,hz1⟩)))
 rotate_left
 ·have HR:Hid (RwI W0 W0.heap.size (.slice a mw cap) words lk rg b L 0 ((((w1.setCell ⟨W0.heap.size,0,none⟩ nilV).setCell ⟨W0.heap.size,1,none⟩ (.slice a mw cap)).setCell ⟨W0.heap.size,2,none⟩ (.int .i64 lk)).setCell ⟨W0.heap.size,3,none⟩ (.int .i64 rg)) nilV []):=by
   have hne:(Value.slice a mw cap).ownBlock≠some W0.heap.size:=fun e=>by have:=(H1.out.1.lt _ e).1; omega
   have hle:=Nat.le_refl W0.heap.size
   refine ⟨(((H1.out.2.1.setCell hle _).setCell hle _).setCell hle _).setCell hle _,hle,?_,?_,hne,World.ownsRow_nil _ _ _ _,by simp [Value.ownBlock],fun g _ e=>by simp [Value.ownBlock] at e,fun t ht=>absurd ht (by omega)⟩
   ·rw [heap_set_same (heap_set_same (heap_set_same (heap_set_same H1.out.2.2)))]
    rfl
   ·rw [HMW.out]
    exact owns_far (owns_far (owns_far (owns_far (own_low H1.out.1 (by omega)) hne) hne) hne) hne
  obtain ⟨qb,hqb⟩:∃ q,W0.heap.size=q:=⟨_,rfl⟩
  have HQB:Hid (W0.heap.size=qb):=hqb
  obtain ⟨W,hW⟩:∃ V,(((w1.setCell ⟨W0.heap.size,0,none⟩ nilV).setCell ⟨W0.heap.size,1,none⟩ (.slice a mw cap)).setCell ⟨W0.heap.size,2,none⟩ (.int .i64 lk)).setCell ⟨W0.heap.size,3,none⟩ (.int .i64 rg)=V:=⟨_,rfl⟩
  rw [hW] at HR
  rw [hW]
  obtain ⟨qp,hqp⟩:∃ q:Value,.pointer (some ⟨W0.heap.size,0,none⟩)=q:=⟨_,rfl⟩
  rw [hqp]
  rw [hqb] at hqp
  rw [← hqp]
  have HR':Hid (RwI W0 qb (.slice a mw cap) words lk rg b L 0 W nilV []):=by rw [← hqb]; exact HR.out
  clear HR hqp
  have HR:=HR'
  clear HR'
  clear hW hqb HC1 HC2 H1 j0 j1 j2 j3 p0 p1 p2 p3 q0 q1 q2 q3 qf hz1
  obtain ⟨hwW,p0,p1,p2,p3⟩:=HAT.out W HR.out.low
  have HW9:Hid (∀ V,Below W0.heap.size W0 V→Below w.heap.size w V):=fun V hV=>(HAT.out V hV).1
  clear p1 p2 p3 HAT
  go_wp2
  clear p0
  go_loopw [22] (fun i wr=>∃ (k:Nat) (va:Option Addr) (vc:Nat) (tv:List Value),k≤n∧i=.int .i64 k∧Hid (RwI W0 qb (.slice a mw cap) words lk rg b L k wr (.slice va k vc) tv)) (fun i _=>n - (intOf i).toNat)
  case atStart=>exact ⟨0,none,0,[],Nat.zero_le _,rfl,HR⟩
  case round =>
   obtain ⟨k,va,vc,tv,hk,rfl,HL⟩:=hrel
   clear HR hwW
   by_cases hlt:k < n
   ·have hwr:Below w.heap.size w wr:=HW9.out wr HL.out.low
    obtain ⟨cb,co,rfl,hcell⟩:=(HPR.out.below hwr).code k hlt
    obtain ⟨l,hl⟩:∃ l,L k=l:=⟨_,rfl⟩
    rw [hl] at hcell
    have hl4:l≤1000:=by rw [← hl]; exact HLB.out.1 k hlt
    have HLK:Hid (L k=l):=hl
    have HWR:Hid (Below w.heap.size w wr):=hwr
    clear hl hwr
    go_wp2
    clear hcell
    obtain ⟨S,rfl⟩:∃ V,V=wr:=⟨_,rfl⟩
    go_loopw [8,9,29] (fun cd pv iv wi=>∃ (j:Nat) (ca2:Option Addr) (cl c2:Nat) (pa2:Option Addr) (pc2:Nat),j≤l∧iv=.int .i64 j∧cd=.slice ca2 cl c2∧pv=.slice pa2 j pc2∧cl≤2*j∧Hid (cl=plR (b k) j∧InI S (b k) j j wi (.slice ca2 cl c2) (.slice pa2 j pc2))) (fun _ _ iv _=>l - (intOf iv).toNat)
    case atStart=>exact ⟨0,none,0,0,none,0,Nat.zero_le _,rfl,rfl,rfl,by omega,rfl,InI.start _ _⟩
    case round =>
     obtain ⟨j,ca2,cl,c2,pa2,pc2,hj,rfl,rfl,rfl,hcl,HI⟩:=hrel
     by_cases hjl:j < l
     ·obtain ⟨g3,cap3,w3,hrun3,HI3',hb3⟩:=HI.out.2.place (Below.refl _ _) HI.out.1 (by omega)
      have HI3:=hiD HI3'
      have HB3:Hid (Below w.heap.size w w3):=HWR.out.trans (hb3.mono HWR.out.size)
      clear HI3' hb3
      go_wp2_with fail
      refine Calls.mono (HBE.out w3 k j HB3.out hlt (by rw [HLK.out]; exact hjl)) ?_
      rintro e w4 ⟨sa,c,rfl,hs4,hb4⟩
      have hbl2:=HLB.out.2 k j hlt (by rw [HLK.out]; exact hjl)
      obtain ⟨v5,w5,hrun5,hI5,_⟩:=HI3.out.more hb4 sa c hs4 (by rw [← HI.out.1]; omega)
      obtain ⟨a5,c5,e5⟩:=fam_form hI5.code
      rw [raw_len] at e5
      have hpl5:plR (b k) (j+1)=cl+(b k j).length:=by rw [plR,HI.out.1]
      rw [hpl5] at e5
      subst e5
      have HI5:Hid (cl+(b k j).length=plR (b k) (j+1)∧InI S (b k) (j+1) (j+1) w5 (.slice a5 (cl+(b k j).length) c5) (.slice (some ⟨g3,0,none⟩) (j+1) cap3)):=⟨hpl5.symm,hI5⟩
      have hle:cl+(b k j).length≤2*(j+1):=by omega
      clear hI5 hpl5 hs4 hb4 hbl2
      go_wp2_with fail
      go_roundw
      case rel=>exact ⟨j+1,_,_,_,_,_,by omega,by go_num,rfl,rfl,hle,HI5⟩
      case measure=>simp [intOf]; omega
     ·have hjl':j=l:=by omega
      subst hjl'
      obtain ⟨g3,cap3,w3,hrun3,HI3',hb3⟩:=HI.out.2.place (Below.refl _ _) HI.out.1 (by omega)
      have HI3:=hiD HI3'
      clear HI3' hb3
      have HLE:Hid (∀ pc,Calls Tryz.prog 129 #[.slice ca2 cl c2,.slice (some ⟨g3,0,none⟩) (j+1) pc] w3 fun e w'=>e=.returned (.tuple #[])∧OwnC w' S.heap.size (.slice ca2 cl c2) (codeR (b k) (L k))∧w3.grownBy w' (Value.slice ca2 cl c2).ownBlock):=fun pc=>by
       have h0:=HI3.out
       have hps:=h0.sis (a:=some ⟨g3,0,none⟩) rfl
       have hln:((List.range (j+1)).map fun i=>(plR (b k) i:Int)).length=j+1:=by simp
       have h1:=lead_own w3 S.heap.size (.slice ca2 cl c2) (rawR (b k) j) (plR (b k)) (some ⟨g3,0,none⟩) pc _ h0.code hps (fun q o e hq=>by
        have:g3=q:=by simpa using congrArg (fun z=>z.map Addr.block) e
        exact h0.apart q hq (by simp [Value.ownBlock,this])) (fun i hi=>by
        have hi':i < j+1:=by rw [← hln]; exact hi
        simp [List.getD,hi']) (fun x hx=>by
        obtain ⟨i,hi,hm⟩:=raw_mem hx
        exact (HKB.out k i x hlt (by rw [HLK.out]; exact hi) hm).1) (fun x hx he=>by
        obtain ⟨i,hi,hm⟩:=raw_mem hx
        have:=(HKB.out k i x hlt (by rw [HLK.out]; exact hi) hm).2.1 he
        rw [HLK.out] at this
        rw [hln]
        omega) (fun x hx he=>by
        obtain ⟨i,hi,hm⟩:=raw_mem hx
        have:=(HKB.out k i x hlt (by rw [HLK.out]; exact hi) hm).2.2 he
        rw [HLK.out] at this
        rw [hln]
        omega) (by rw [raw_len,← HI.out.1]; omega)
       rw [hln] at h1
       rw [HLK.out]
       exact h1
      go_wp2_with fail
      refine Calls.mono (HLE.out _) ?_
      rintro e w7 ⟨rfl,ho7,hg7⟩
      have hb7:Below S.heap.size S w7:=HI3.out.low.grown hg7 HI3.out.low.size (fun q hq=>(HI3.out.code.lt q hq).1)
      obtain ⟨g8,cap8,w8,hrun8,hbx8,hb8,hR8⟩:=HL.out.push hb7 (Nat.le_refl _) ho7 (by omega)
      have hbx7:=(hb7.block qb (box_lt HL.out.box)).trans HL.out.box
      have x0:=box_cell (i:=0) hbx7 rfl
      have x8:=box_cell (i:=0) hbx8 rfl
      have xf8:w8.frozen? ⟨qb,0,none⟩=false:=box_free hbx8
      have HR8:=hiD hR8
      clear ho7 hg7 hb7 hbx8 hb8 hR8 hbx7
      go_wp2_with fail
      go_roundw
      case rel=>exact ⟨k+1,_,_,_,by omega,by go_num,HR8⟩
      case measure=>simp [intOf]; omega
   ·have hkn:k=n:=by omega
    subst hkn
    have x0:=box_cell (i:=0) HL.out.box rfl
    have x1:=box_cell (i:=1) HL.out.box rfl
    have x2:=box_cell (i:=2) HL.out.box rfl
    have x3:=box_cell (i:=3) HL.out.box rfl
    have hrb:=HRB.out wr HL.out.low
    have y0:=box_cell (i:=0) hrb rfl
    have y1:=box_cell (i:=1) hrb rfl
    have y2:=box_cell (i:=2) hrb rfl
    have y3:=box_cell (i:=3) hrb rfl
    have yf:∀ i,wr.frozen? ⟨w.heap.size+1,i,none⟩=false:=fun i=>box_free hrb
    have hsz:w.heap.size+1 < wr.heap.size:=box_lt hrb
    have hlt1:w.heap.size+1 < W0.heap.size:=by omega
    have HWW:Hid (Below w.heap.size w wr):=HW9.out wr HL.out.low
    clear hrb HRB HW0 HPR HBE HKB HLB
    go_wp2
    refine bodyPost_ret (v:=.agg #[.slice va k vc,.slice a mw cap,.int .i64 lk,.int .i64 rg]) (by simp [results,Tryz.results104,go_sem,y0,y1,y2,y3]) rfl ?_
    have h1:=HL.out
    have hset:∀ {e:TypeId} {size:Nat} {v:Value} {n:Nat} {xs:List Value},wr.ownsRow W0.heap.size e size v n xs→((((wr.setCell ⟨w.heap.size+1,0,none⟩ (.slice va k vc)).setCell ⟨w.heap.size+1,1,none⟩ (.slice a mw cap)).setCell ⟨w.heap.size+1,2,none⟩ (.int .i64 lk)).setCell ⟨w.heap.size+1,3,none⟩ (.int .i64 rg)).ownsRow w.heap.size e size v n xs:=fun h=>own_low (ownsRow_setCell_below (ownsRow_setCell_below (ownsRow_setCell_below (ownsRow_setCell_below h hlt1 _) hlt1 _) hlt1 _) hlt1 _) (by omega)
    refine ⟨_,_,tv,rfl,hset h1.code,fun t ht=>hset (h1.thr t ht).1,?_,?_⟩
    ·have:=hset h1.words
     rw [HMW.out] at this
     exact this
    ·have hw1:w.heap.size≤w.heap.size+1:=by omega
     exact (((HWW.out.setCell hw1 _).setCell hw1 _).setCell hw1 _).setCell hw1 _
 ·have HR:Hid (RwI W0 w1.heap.size (.slice a mw cap) words lk rg b L 0 (w1.alloc (.cells #[nilV,.slice a mw cap,.int .i64 lk,.int .i64 rg] 25)) nilV []) :=
   ⟨H1.out.2.alloc H1.out.2.size _,H1.out.2.size,heap_alloc_new _ _,by rw [HMW.out]; exact owns_below2 H1.out.1 ((Below.refl _ _).alloc (Nat.le_refl _) _),fun e=>by have:=(H1.out.1.lt _ e).2; omega,World.ownsRow_nil _ _ _ _,by simp [Value.ownBlock],fun g _ e=>by simp [Value.ownBlock] at e,fun t ht=>absurd ht (by omega)⟩
  obtain ⟨qb,hqb⟩:∃ q,w1.heap.size=q:=⟨_,rfl⟩
  obtain ⟨W,hW⟩:∃ V,w1.alloc (.cells #[nilV,.slice a mw cap,.int .i64 lk,.int .i64 rg] 25)=V:=⟨_,rfl⟩
  rw [hW,hqb] at HR
  rw [hW,hqb]
  clear hW hqb HC1 HC2 H1 j0 j1 j2 j3 p0 p1 p2 p3
  obtain ⟨hwW,p0,p1,p2,p3⟩:=HAT.out W HR.out.low
  have HW9:Hid (∀ V,Below W0.heap.size W0 V→Below w.heap.size w V):=fun V hV=>(HAT.out V hV).1
  clear p1 p2 p3 HAT
  go_wp2
  clear p0
  go_loopw [22] (fun i wr=>∃ (k:Nat) (va:Option Addr) (vc:Nat) (tv:List Value),k≤n∧i=.int .i64 k∧Hid (RwI W0 qb (.slice a mw cap) words lk rg b L k wr (.slice va k vc) tv)) (fun i _=>n - (intOf i).toNat)
  case atStart=>exact ⟨0,none,0,[],Nat.zero_le _,rfl,HR⟩
  case round =>
   obtain ⟨k,va,vc,tv,hk,rfl,HL⟩:=hrel
   clear HR hwW
   by_cases hlt:k < n
   ·have hwr:Below w.heap.size w wr:=HW9.out wr HL.out.low
    obtain ⟨cb,co,rfl,hcell⟩:=(HPR.out.below hwr).code k hlt
    obtain ⟨l,hl⟩:∃ l,L k=l:=⟨_,rfl⟩
    rw [hl] at hcell
    have hl4:l≤1000:=by rw [← hl]; exact HLB.out.1 k hlt
    have HLK:Hid (L k=l):=hl
    have HWR:Hid (Below w.heap.size w wr):=hwr
    clear hl hwr
    go_wp2
    clear hcell
    obtain ⟨S,rfl⟩:∃ V,V=wr:=⟨_,rfl⟩
    go_loopw [8,9,29] (fun cd pv iv wi=>∃ (j:Nat) (ca2:Option Addr) (cl c2:Nat) (pa2:Option Addr) (pc2:Nat),j≤l∧iv=.int .i64 j∧cd=.slice ca2 cl c2∧pv=.slice pa2 j pc2∧cl≤2*j∧Hid (cl=plR (b k) j∧InI S (b k) j j wi (.slice ca2 cl c2) (.slice pa2 j pc2))) (fun _ _ iv _=>l - (intOf iv).toNat)
    case atStart=>exact ⟨0,none,0,0,none,0,Nat.zero_le _,rfl,rfl,rfl,by omega,rfl,InI.start _ _⟩
    case round =>
     obtain ⟨j,ca2,cl,c2,pa2,pc2,hj,rfl,rfl,rfl,hcl,HI⟩:=hrel
     by_cases hjl:j < l
     ·obtain ⟨g3,cap3,w3,hrun3,HI3',hb3⟩:=HI.out.2.place (Below.refl _ _) HI.out.1 (by omega)
      have HI3:=hiD HI3'
      have HB3:Hid (Below w.heap.size w w3):=HWR.out.trans (hb3.mono HWR.out.size)
      clear HI3' hb3
      go_wp2_with fail
      refine Calls.mono (HBE.out w3 k j HB3.out hlt (by rw [HLK.out]; exact hjl)) ?_
      rintro e w4 ⟨sa,c,rfl,hs4,hb4⟩
      have hbl2:=HLB.out.2 k j hlt (by rw [HLK.out]; exact hjl)
      obtain ⟨v5,w5,hrun5,hI5,_⟩:=HI3.out.more hb4 sa c hs4 (by rw [← HI.out.1]; omega)
      obtain ⟨a5,c5,e5⟩:=fam_form hI5.code
      rw [raw_len] at e5
      have hpl5:plR (b k) (j+1)=cl+(b k j).length:=by rw [plR,HI.out.1]
      rw [hpl5] at e5
      subst e5
      have HI5:Hid (cl+(b k j).length=plR (b k) (j+1)∧InI S (b k) (j+1) (j+1) w5 (.slice a5 (cl+(b k j).length) c5) (.slice (some ⟨g3,0,none⟩) (j+1) cap3)):=⟨hpl5.symm,hI5⟩
      have hle:cl+(b k j).length≤2*(j+1):=by omega
      clear hI5 hpl5 hs4 hb4 hbl2
      go_wp2_with fail
      go_roundw
      case rel=>exact ⟨j+1,_,_,_,_,_,by omega,by go_num,rfl,rfl,hle,HI5⟩
      case measure=>simp [intOf]; omega
     ·have hjl':j=l:=by omega
      subst hjl'
      obtain ⟨g3,cap3,w3,hrun3,HI3',hb3⟩:=HI.out.2.place (Below.refl _ _) HI.out.1 (by omega)
      have HI3:=hiD HI3'
      clear HI3' hb3
      have HLE:Hid (∀ pc,Calls Tryz.prog 129 #[.slice ca2 cl c2,.slice (some ⟨g3,0,none⟩) (j+1) pc] w3 fun e w'=>e=.returned (.tuple #[])∧OwnC w' S.heap.size (.slice ca2 cl c2) (codeR (b k) (L k))∧w3.grownBy w' (Value.slice ca2 cl c2).ownBlock):=fun pc=>by
       have h0:=HI3.out
       have hps:=h0.sis (a:=some ⟨g3,0,none⟩) rfl
       have hln:((List.range (j+1)).map fun i=>(plR (b k) i:Int)).length=j+1:=by simp
       have h1:=lead_own w3 S.heap.size (.slice ca2 cl c2) (rawR (b k) j) (plR (b k)) (some ⟨g3,0,none⟩) pc _ h0.code hps (fun q o e hq=>by
        have:g3=q:=by simpa using congrArg (fun z=>z.map Addr.block) e
        exact h0.apart q hq (by simp [Value.ownBlock,this])) (fun i hi=>by
        have hi':i < j+1:=by rw [← hln]; exact hi
        simp [List.getD,hi']) (fun x hx=>by
        obtain ⟨i,hi,hm⟩:=raw_mem hx
        exact (HKB.out k i x hlt (by rw [HLK.out]; exact hi) hm).1) (fun x hx he=>by
        obtain ⟨i,hi,hm⟩:=raw_mem hx
        have:=(HKB.out k i x hlt (by rw [HLK.out]; exact hi) hm).2.1 he
        rw [HLK.out] at this
        rw [hln]
        omega) (fun x hx he=>by
        obtain ⟨i,hi,hm⟩:=raw_mem hx
        have:=(HKB.out k i x hlt (by rw [HLK.out]; exact hi) hm).2.2 he
        rw [HLK.out] at this
        rw [hln]
        omega) (by rw [raw_len,← HI.out.1]; omega)
       rw [hln] at h1
       rw [HLK.out]
       exact h1
      go_wp2_with fail
      refine Calls.mono (HLE.out _) ?_
      rintro e w7 ⟨rfl,ho7,hg7⟩
      have hb7:Below S.heap.size S w7:=HI3.out.low.grown hg7 HI3.out.low.size (fun q hq=>(HI3.out.code.lt q hq).1)
      obtain ⟨g8,cap8,w8,hrun8,hbx8,hb8,hR8⟩:=HL.out.push hb7 (Nat.le_refl _) ho7 (by omega)
      have hbx7:=(hb7.block qb (box_lt HL.out.box)).trans HL.out.box
      have x0:=box_cell (i:=0) hbx7 rfl
      have x8:=box_cell (i:=0) hbx8 rfl
      have xf8:w8.frozen? ⟨qb,0,none⟩=false:=box_free hbx8
      have HR8:=hiD hR8
      clear ho7 hg7 hb7 hbx8 hb8 hR8 hbx7
      go_wp2_with fail
      go_roundw
      case rel=>exact ⟨k+1,_,_,_,by omega,by go_num,HR8⟩
      case measure=>simp [intOf]; omega
   ·have hkn:k=n:=by omega
    subst hkn
    have x0:=box_cell (i:=0) HL.out.box rfl
    have x1:=box_cell (i:=1) HL.out.box rfl
    have x2:=box_cell (i:=2) HL.out.box rfl
    have x3:=box_cell (i:=3) HL.out.box rfl
    have hrb:=HRB.out wr HL.out.low
    have y0:=box_cell (i:=0) hrb rfl
    have y1:=box_cell (i:=1) hrb rfl
    have y2:=box_cell (i:=2) hrb rfl
    have y3:=box_cell (i:=3) hrb rfl
    have yf:∀ i,wr.frozen? ⟨w.heap.size+1,i,none⟩=false:=fun i=>box_free hrb
    have hsz:w.heap.size+1 < wr.heap.size:=box_lt hrb
    have hlt1:w.heap.size+1 < W0.heap.size:=by omega
    have HWW:Hid (Below w.heap.size w wr):=HW9.out wr HL.out.low
    clear hrb HRB HW0 HPR HBE HKB HLB
    go_wp2
    refine bodyPost_ret (v:=.agg #[.slice va k vc,.slice a mw cap,.int .i64 lk,.int .i64 rg]) (by simp [results,Tryz.results104,go_sem,y0,y1,y2,y3]) rfl ?_
    have h1:=HL.out
    have hset:∀ {e:TypeId} {size:Nat} {v:Value} {n:Nat} {xs:List Value},wr.ownsRow W0.heap.size e size v n xs→((((wr.setCell ⟨w.heap.size+1,0,none⟩ (.slice va k vc)).setCell ⟨w.heap.size+1,1,none⟩ (.slice a mw cap)).setCell ⟨w.heap.size+1,2,none⟩ (.int .i64 lk)).setCell ⟨w.heap.size+1,3,none⟩ (.int .i64 rg)).ownsRow w.heap.size e size v n xs:=fun h=>own_low (ownsRow_setCell_below (ownsRow_setCell_below (ownsRow_setCell_below (ownsRow_setCell_below h hlt1 _) hlt1 _) hlt1 _) hlt1 _) (by omega)
    refine ⟨_,_,tv,rfl,hset h1.code,fun t ht=>hset (h1.thr t ht).1,?_,?_⟩
    ·have:=hset h1.words
     rw [HMW.out] at this
     exact this
    ·have hw1:w.heap.size≤w.heap.size+1:=by omega
     exact (((HWW.out.setCell hw1 _).setCell hw1 _).setCell hw1 _).setCell hw1 _
end
section
open Go.RowKit
theorem new_pin {w:World} {B:Nat} {b:Nat→Nat→List I4} {L:Nat→Nat} {n:Nat} {cv:Value} {tv:List Value} (hc:w.ownsRow B 35 1 cv n tv) (ht:∀ t,t < n→OwnC w B (tv.getD t nilV) (codeR (b t) (L t))) (hn:n≤1000) (hl:∀ t,t < n→lenR b L t≤1000000) :
  ∃ ca cc A C,cv=.slice ca n cc∧PIn w ca n A (lenR b L) C (numR b L):=by
 obtain ⟨ca,cc,rfl⟩:=fam_form hc
 have htl:tv.length=n:=by have:=hc.1; omega
 have hf:∀ t,∃ a c,t < n→tv.getD t nilV=.slice a (lenR b L t) c:=fun t=>by
  by_cases h:t < n
  ·obtain ⟨a,c,e⟩:=fam_form (ht t h)
   exact ⟨a,c,fun _=>e⟩
  ·exact ⟨none,0,fun h'=>absurd h' h⟩
 refine ⟨ca,cc,fun t=>(hf t).choose,fun t=>(hf t).choose_spec.choose,rfl,⟨fun t h=>?_,fun t i h hi=>?_,fun t h=>by have:=hl t h; omega,by omega⟩⟩
 ·obtain ⟨g,cap,e,hg,_⟩:=fam_block hc (by omega)
  simp only [Value.slice.injEq] at e
  refine ⟨g,0,e.1,?_⟩
  have e2:=(hf t).choose_spec.choose_spec h
  have e3:tv[t]? = some (tv.getD t nilV):=by simp [List.getD,show t < tv.length by omega]
  rw [e2] at e3
  rw [Nat.zero_add]
  exact fam_cell hc hg e3
 ·have h1:=ht t h
  have e2:=(hf t).choose_spec.choose_spec h
  rw [e2] at h1
  obtain ⟨g,cap,e,hg,_⟩:=fam_block h1 (Nat.lt_of_le_of_lt (Nat.zero_le _) hi)
  simp only [Value.slice.injEq] at e
  obtain ⟨y0,y1,y2,y3⟩:=cellsT_at (l:=codeR (b t) (L t)) hi fenceI
  refine ⟨g,0,e.1,?_,?_,?_,?_⟩
  ·rw [Nat.zero_add]; exact fam_cell h1 hg y0
  ·rw [Nat.zero_add]; exact fam_cell h1 hg y1
  ·rw [Nat.zero_add]; exact fam_cell h1 hg y2
  ·rw [Nat.zero_add]; exact fam_cell h1 hg y3
theorem new_led {n m lk rg:Nat} {L:Nat→Nat} {X:Nat→Nat→Nat→Int} (hc:COk n L X m lk rg) {t i:Nat} (ht:t < n) (hi:i < L t) {x:I4} (hx:x=ordAt X t i∨x=fenceI):(1≤x.1∧x.1≤18)∧(x.1=14→0≤x.2.1∧x.2.1≤L t)∧(x.1=15→0≤x.2.2.1∧x.2.2.1≤L t):=by
 have h:=hc.ord t i ht hi
 rcases hx with rfl | rfl
 ·refine ⟨ok_op h,fun e=>?_,fun e=>?_⟩
  ·have e':X t i 0=14:=e
   rw [e'] at h
   exact ok_jump h
  ·have e':X t i 0=15:=e
   rw [e'] at h
   exact (ok_zero h).2
 ·refine ⟨by decide,fun e=>?_,fun e=>?_⟩
  ·exact absurd e (by decide)
  ·exact absurd e (by decide)
theorem bWith_in {w:Bool} {x y:I4} (h:y∈bWith w x):y=x∨y=fenceI:=by
 unfold bWith at h
 split at h
 ·simpa using h
 ·exact Or.inl (by simpa using h)
def NewQ (w:World) (n:Nat) (words:List Int) (lk rg:Int) (b:Nat→Nat→List I4) (L:Nat→Nat) (e:Ending) (w':World):Prop:=∃ (va:Option Addr) (vc:Nat) (ua:Option Addr) (uc:Nat) (tv:List Value),e=.returned (.agg #[.slice va n vc,.slice ua words.length uc,.int .i64 lk,.int .i64 rg])∧w'.ownsRow w.heap.size 35 1 (.slice va n vc) n tv∧(∀ t,t < n→OwnC w' w.heap.size (tv.getD t nilV) (codeR (b t) (L t)))∧w'.ownsRow w.heap.size 3 1 (.slice ua words.length uc) words.length (intsV words)∧Below w.heap.size w w'
theorem NewQ.below {w V V':World} {n:Nat} {words:List Int} {lk rg:Int} {b:Nat→Nat→List I4} {L:Nat→Nat} {e:Ending} (h:NewQ w n words lk rg b L e V) (hb:Below V.heap.size V V'):NewQ w n words lk rg b L e V':=by
 obtain ⟨va,vc,ua,uc,tv,h0,h1,h2,h3,h4⟩:=h
 exact ⟨va,vc,ua,uc,tv,h0,owns_below2 h1 hb,fun t ht=>(h2 t ht).below hb,owns_below2 h3 hb,h4.trans (hb.mono h4.size)⟩
theorem fput_any (w:World) (ca:Option Addr) (n cc:Nat) (wa:Option Addr) (words:List Int) (wc:Nat) (lk rg:Nat) (fid:Nat) (caps:Array Value) (A:Nat→Option Addr) (L C:Nat→Nat) (X:Nat→Nat→Nat→Int) (d:Nat→Nat→Bool) (hw:SIs w wa words) (hnil:wa=none→words=[]∧wc=0) (hc:COk n L X words.length lk rg) (hp:PIn w ca n A L C X)
  (hfn:∀ (xs:Array Value) (w:World),(callFunc fid xs).run Tryz.prog w=.ok (.enter fid xs) w)
  (hd:∀ V t i,Below w.heap.size w V→t < n→i < L t→Calls Tryz.prog fid (#[.agg #[.int .i64 (t:Int),.int .i64 (i:Int)]]++caps) V fun e w'=>e=.returned (.bool (d t i))∧Below V.heap.size V w') :
  Calls Tryz.prog 68 #[prgV ca n cc wa words.length wc lk rg,.func (.func fid) #[] caps] w (NewQ w n words lk rg (fun t i=>bWith (d t i) (ordAt X t i)) L):=by
 obtain ⟨PB,hPB⟩:∃ o:Obj,o=.cells #[.slice ca n cc,.slice wa words.length wc,.int .i64 lk,.int .i64 rg] 25:=⟨_,rfl⟩
 obtain ⟨FB,hFB⟩:∃ o:Obj,o=.cells #[.func (.func fid) #[] caps] 140:=⟨_,rfl⟩
 obtain ⟨RB,hRB⟩:∃ o:Obj,o=.cells #[nilV,nilV,.int .i64 0,.int .i64 0] 25:=⟨_,rfl⟩
 obtain ⟨W3,hW3⟩:∃ V,((w.alloc PB).alloc FB).alloc RB=V:=⟨_,rfl⟩
 have hb3:Below w.heap.size w W3:=by rw [← hW3]; exact (((Below.refl _ _).alloc (Nat.le_refl _) _).alloc (by simp) _).alloc (by simp; omega) _
 have hz3:w.heap.size+3=W3.heap.size:=by rw [← hW3]; simp
 have hpb:W3.heap[w.heap.size]? = some PB:=by rw [← hW3]; exact box_later (box_later (heap_alloc_new _ _) _) _
 have hfb:W3.heap[w.heap.size+1]? = some FB:=by rw [← hW3]; have:=box_later (heap_alloc_new (w.alloc PB) FB) RB; simpa using this
 have hrb:W3.heap[w.heap.size+1+1]? = some RB:=by rw [← hW3]; have:=heap_alloc_new ((w.alloc PB).alloc FB) RB; simpa using this
 have HRW:Hid (Calls Tryz.prog 104 #[.agg #[.slice ca n cc,.slice wa words.length wc,.int .i64 lk,.int .i64 rg],.func (.func 105) #[] #[.pointer (some ⟨w.heap.size+1,0,none⟩),.pointer (some ⟨w.heap.size,0,none⟩)]] W3 fun e w'=>∃ (va:Option Addr) (vc:Nat) (ua:Option Addr) (uc:Nat),e=.returned (.agg #[.slice va n vc,.slice ua words.length uc,.int .i64 lk,.int .i64 rg])∧w'.heap[w.heap.size+1+1]? = some (.cells #[nilV,nilV,.int .i64 0,.int .i64 0] 25)∧Hid (∀ a b c f,NewQ w n words lk rg (fun t i=>bWith (d t i) (ordAt X t i)) L (.returned (.agg #[.slice va n vc,.slice ua words.length uc,.int .i64 lk,.int .i64 rg])) ((((w'.setCell ⟨w.heap.size+1+1,0,none⟩ a).setCell ⟨w.heap.size+1+1,1,none⟩ b).setCell ⟨w.heap.size+1+1,2,none⟩ c).setCell ⟨w.heap.size+1+1,3,none⟩ f))):=by
  have h:=rewrite_any W3 ca n cc wa words wc lk rg 105 #[.pointer (some ⟨w.heap.size+1,0,none⟩),.pointer (some ⟨w.heap.size,0,none⟩)] A L C X (fun t i=>bWith (d t i) (ordAt X t i)) (hw.below hb3) hnil hc.m64 (hp.below hb3) (by have:=hc.n4; omega) hc.L4 (fun t i _ _=>by unfold bWith; split <;> simp) (fun t i x ht hi hx=>new_led hc ht hi (bWith_in hx)) (fun xs w=>by kernel_rfl) (fun V t i hV ht hi=>by
   have hV0:Below w.heap.size w V:=hb3.trans (hV.mono hb3.size)
   have e1:=(hV.block w.heap.size (by omega)).trans hpb
   have e2:=(hV.block (w.heap.size+1) (by omega)).trans hfb
   rw [hPB] at e1
   rw [hFB] at e2
   exact put1_any V w.heap.size (w.heap.size+1) fid caps ca n cc wa words.length wc lk rg A L C X t i (d t i) (hp.below hV0) ht hi e1 (box_cell e2 rfl) hfn (fun U hU=>hd U t i (hV0.trans (hU.mono hV0.size)) ht hi))
  refine Calls.mono h ?_
  rintro e w' ⟨cv,uv,tv,rfl,h1,h2,h3,h4⟩
  have e3:=(h4.block (w.heap.size+1+1) (by omega)).trans hrb
  rw [hRB] at e3
  have hlt:w.heap.size+1+1 < W3.heap.size:=by omega
  obtain ⟨va,vc,rfl⟩:=fam_form h1
  obtain ⟨ua,uc,rfl⟩:=fam_form h3
  refine ⟨va,vc,ua,uc,rfl,e3,fun a b c f=>⟨va,vc,ua,uc,tv,rfl,?_,fun t ht=>?_,?_,?_⟩⟩
  ·exact own_low (ownsRow_setCell_below (ownsRow_setCell_below (ownsRow_setCell_below (ownsRow_setCell_below h1 hlt _) hlt _) hlt _) hlt _) hb3.size
  ·exact own_low (ownsRow_setCell_below (ownsRow_setCell_below (ownsRow_setCell_below (ownsRow_setCell_below (h2 t ht) hlt _) hlt _) hlt _) hlt _) hb3.size
  ·exact own_low (ownsRow_setCell_below (ownsRow_setCell_below (ownsRow_setCell_below (ownsRow_setCell_below h3 hlt _) hlt _) hlt _) hlt _) hb3.size
  ·have hle:w.heap.size≤w.heap.size+1+1:=by omega
   exact ((((hb3.trans (h4.mono hb3.size)).setCell hle _).setCell hle _).setCell hle _).setCell hle _
 have HW3:Hid (((w.alloc (.cells #[.slice ca n cc,.slice wa words.length wc,.int .i64 lk,.int .i64 rg] 25)).alloc (.cells #[.func (.func fid) #[] caps] 140)).alloc (.cells #[nilV,nilV,.int .i64 0,.int .i64 0] 25)=W3):=by rw [← hW3,hPB,hFB,hRB]; exact rfl
 clear hPB hFB hRB hW3 hb3 hz3 hpb hfb hrb hw hnil hc hp hd
 go_enter Tryz.func68,Tryz.ntmps68
 go_wp2_with fail
 rw [HW3.out]
 refine Calls.mono HRW.out ?_
 rintro e w4 ⟨va,vc,ua,uc,rfl,e4,HQ⟩
 have y0:=box_cell (i:=0) e4 rfl
 have y1:=box_cell (i:=1) e4 rfl
 have y2:=box_cell (i:=2) e4 rfl
 have y3:=box_cell (i:=3) e4 rfl
 have yf:∀ i,w4.frozen? ⟨w.heap.size+1+1,i,none⟩=false:=fun i=>box_free e4
 have hsz:w.heap.size+1+1 < w4.heap.size:=box_lt e4
 clear e4 HRW HW3
 go_wp2_with fail
 exact bodyPost_ret (v:=.agg #[.slice va n vc,.slice ua words.length uc,.int .i64 lk,.int .i64 rg]) (by simp [results,Tryz.results68,go_sem,y0,y1,y2,y3]) rfl (HQ.out _ _ _ _)
end
section
open Go.RowKit
structure BeI (S:World) (b:Nat→List I4) (j:Nat) (W:World) (bv:Value) (tv:List Value):Prop where
 low:Below S.heap.size S W
 row:W.ownsRow S.heap.size 35 1 bv j tv
 thr:∀ i,i < j→OwnC W S.heap.size (tv.getD i nilV) (b i)∧∀ g,(tv.getD i nilV).ownBlock=some g→bv.ownBlock≠some g
section
variable {S W:World} {b:Nat→List I4} {j:Nat} {bv:Value} {tv:List Value}
theorem BeI.start (S:World) (b:Nat→List I4):BeI S b 0 S nilV []:=⟨Below.refl _ _,World.ownsRow_nil _ _ _ _,fun i h=>absurd h (by omega)⟩
theorem BeI.below (h:BeI S b j W bv tv) {W':World} (hb:Below W.heap.size W W'):BeI S b j W' bv tv:=⟨h.low.trans (hb.mono h.low.size),owns_below2 h.row hb,fun i hi=>⟨(h.thr i hi).1.below hb,(h.thr i hi).2⟩⟩
theorem BeI.push (h:BeI S b j W bv tv) {V:World} (hb:Below W.heap.size W V) {v:Value} (hv:OwnC V W.heap.size v (b j)) (hj:j≤1000) :
  ∃ g cap w3,(AppS #[22,22] 22 #[bv,.slice (some ⟨V.heap.size,0,none⟩) 1 1]).run Tryz.prog (V.alloc (.cells #[v] 35))=.ok (.slice (some ⟨g,0,none⟩) (j+1) cap) w3∧BeI S b (j+1) w3 (.slice (some ⟨g,0,none⟩) (j+1) cap) (tv++[v]):=by
 have h0:=h.below hb
 have hl:=h0.low.size
 have hone:v.oneCell'=true:=by
  rcases hv.2 with ⟨rfl,_⟩ | ⟨g,cap,cur,rfl,_⟩ <;> rfl
 obtain ⟨g,cap,w3,r1,r2,r3,r4⟩:=app_row (T:=22) Tryz.underlying22 infoOs rfl (by omega) h0.row (Below.refl _ V) hl 1 #[v] rfl (by simp [hone]) (by omega) (by omega) (by omega)
 have hbA:Below V.heap.size V (V.alloc (.cells #[v] 35)):=(Below.refl _ _).alloc (Nat.le_refl _) _
 have hlow:Below S.heap.size S w3:=(h0.low.alloc hl _).grown r3 (by simp; omega) (fun q hq=>(h0.row.lt q hq).1)
 have hold:∀ x,x < V.heap.size→bv.ownBlock≠some x→x≠g:=fun x hx hne e=>by
  rcases r4 with r4 | r4
  ·exact hne (by rw [r4,e])
  ·omega
 have htl:tv.length=j:=by have:=h.row.1; omega
 refine ⟨g,cap,w3,r1,⟨hlow,r2,fun i hi=>?_⟩⟩
 by_cases e:i=j
 ·subst e
  have e1:(tv++[v]).getD i nilV=v:=by simp [List.getD,← htl]
  rw [e1]
  have hvq:∀ x,v.ownBlock=some x→x < V.heap.size∧bv.ownBlock≠some x:=fun x hx=>by
   have h1:=hv.lt x hx
   refine ⟨h1.2,fun e2=>?_⟩
   have:=(h.row.lt x e2).2
   omega
  refine ⟨own_grown (owns_below2 (own_low hv (by have:=h.low.size; omega)) hbA) r3 (fun x hx=>(hvq x hx).2),fun x hx e2=>?_⟩
  have:g=x:=by simpa [Value.ownBlock] using e2
  exact hold x (hvq x hx).1 (hvq x hx).2 this.symm
 ·have hi':i < j:=by omega
  have e1:(tv++[v]).getD i nilV=tv.getD i nilV:=by simp [List.getD,List.getElem?_append_left (show i < tv.length by omega)]
  rw [e1]
  have h1:=h0.thr i hi'
  refine ⟨own_grown (owns_below2 h1.1 hbA) r3 (fun x hx=>h1.2 x hx),fun x hx e2=>?_⟩
  have:g=x:=by simpa [Value.ownBlock] using e2
  exact hold x (h1.1.lt x hx).2 (h1.2 x hx) this.symm
theorem own_src {W:World} {B:Nat} {a:Option Addr} {c:Nat} {l:List I4} (h:OwnC W B (.slice a l.length c) l):SrcL W a (cellsT l):=fun k u hu=>by
 have hk:k < l.length*4:=by
  rw [← cellsT_len]
  rcases Nat.lt_or_ge k (cellsT l).length with h1 | h1
  ·exact h1
  ·rw [List.getElem?_eq_none h1] at hu; cases hu
 obtain ⟨g,cap,e,hg,_⟩:=fam_block h (by omega)
 simp only [Value.slice.injEq] at e
 refine ⟨g,0,e.1,?_⟩
 rw [Nat.zero_add]
 exact fam_cell h hg hu
theorem BeI.be {a:Option Addr} {c:Nat} (h:BeI S b j W (.slice a j c) tv):BeIn W a j b:=fun i hi=>by
 obtain ⟨g,cap,e,hg,_⟩:=fam_block h.row (by omega)
 simp only [Value.slice.injEq] at e
 have htl:tv.length=j:=by have:=h.row.1; omega
 obtain ⟨sa,sc,e2⟩:=fam_form (h.thr i hi).1
 refine ⟨g,0,sa,sc,e.1,?_,?_⟩
 ·rw [Nat.zero_add,← e2]
  exact fam_cell h.row hg (by simp [List.getD,show i < tv.length by omega])
 ·have:=(h.thr i hi).1
  rw [e2] at this
  exact own_src this
end
theorem new_start (w:World) (PB RB:Obj) (wa:Option Addr) (words:List Int) (wc:Nat) (lk rg:Int) (hw:SIs w wa words) (hm:words.length≤64) (b:Nat→Nat→List I4) (L:Nat→Nat) :
  ∃ g cap w3,(AppS #[23,23] 23 #[.slice (some ⟨w.heap.size+1+1+1,0,none⟩) 0 0,.slice wa words.length wc]).run Tryz.prog ((((w.alloc PB).alloc RB).alloc (.cells #[nilV,nilV,.int .i64 lk,.int .i64 rg] 25)).alloc (.cells #[] 3))=.ok (.slice (some ⟨g,0,none⟩) words.length cap) w3∧w3.heap[w.heap.size+1+1]? = some (.cells #[nilV,nilV,.int .i64 lk,.int .i64 rg] 25) ∧
   RwI ((w.alloc PB).alloc RB) (w.heap.size+1+1) (.slice (some ⟨g,0,none⟩) words.length cap) words lk rg b L 0 (w3.setCell ⟨w.heap.size+1+1,1,none⟩ (.slice (some ⟨g,0,none⟩) words.length cap)) nilV []:=by
 obtain ⟨S,hS⟩:∃ V,(w.alloc PB).alloc RB=V:=⟨_,rfl⟩
 have hSs:S.heap.size=w.heap.size+1+1:=by rw [← hS]; simp
 rw [hS]
 have hwS:SIs (S.alloc (.cells #[nilV,nilV,.int .i64 lk,.int .i64 rg] 25)) wa words:=by
  rw [← hS]
  exact hw.below ((((Below.refl _ _).alloc (Nat.le_refl _) _).alloc (by simp) _).alloc (by simp; omega) _)
 obtain ⟨g,cap,w3,r1,r2,r3,r4,r5⟩:=app_src (S.alloc (.cells #[nilV,nilV,.int .i64 lk,.int .i64 rg] 25)) (S.heap.size+1) (by simp) wa words wc hwS (by omega)
 rw [World.size_alloc,hSs] at r1
 have hb3:Below (S.heap.size+1) (S.alloc (.cells #[nilV,nilV,.int .i64 lk,.int .i64 rg] 25)) w3:=((Below.refl _ _).alloc (by simp) _).grown r3 (by simp) (fun k hk=>by simp at hk; omega)
 have hq3:w3.heap[w.heap.size+1+1]? = some (.cells #[nilV,nilV,.int .i64 lk,.int .i64 rg] 25):=by
  rw [← hSs,hb3.block _ (by omega)]
  exact heap_alloc_new _ _
 have hlow:Below S.heap.size S w3:=((Below.refl _ _).alloc (Nat.le_refl _) _).trans (hb3.mono (by omega))
 have hgq:g≠w.heap.size+1+1:=by simp at r4; omega
 refine ⟨g,cap,w3,r1,hq3,⟨hlow.setCell (by show S.heap.size≤w.heap.size+1+1; omega) _,by omega,?_,?_,?_,World.ownsRow_nil _ _ _ _,by simp [Value.ownBlock],fun x _ e=>by simp [Value.ownBlock] at e,fun t ht=>absurd ht (by omega)⟩⟩
 ·rw [heap_set_same hq3]
  rfl
 ·exact owns_far (own_low r2 (by omega)) (fun e=>hgq (by simpa [Value.ownBlock] using e))
 ·exact fun e=>hgq (by simpa [Value.ownBlock] using e)
end
end Go.Proofs.YtelckcpjmekgcacGreatDoor
