import Derived.Test.YtelckcpjmekgcacGreatDoorFWait
import Derived.Test.YtelckcpjmekgcacGreatDoorZFew
namespace Go.Proofs.YtelckcpjmekgcacGreatDoor
set_option maxHeartbeats 1600000
set_option maxRecDepth 100000
section
open Go.RowKit Go.Sort Go.Shelf
attribute [local go_sem] Oper.semAt_some
structure FwF (w V:World) (n:Nat) (L:Nat→Nat) (X:Nat→Nat→Nat→Int) (words:List Int) (lk rg:Nat) (a:Option Addr) (c:Nat) (P:List Pl) (z:Int):Prop where
 hr:V.heap[w.heap.size+1]? = some (.cells #[.slice a P.length c] 46)
 hf:V.heap[w.heap.size+1+1]? = some (.cells #[.int .i64 z,.int .i64 0,.int .i64 0] 30)
 q:FewQ n L X words lk rg P z
 pl:PlIn V a P
 len:P.length≤6
 low:Below w.heap.size w V
theorem plIn_put {V:World} {a:Option Addr} {P:List Pl} (h:PlIn V a P) {l:Nat} {o o':Obj} (hl:V.heap[l]? = some o') (hc:o'.isCells=false):PlIn (V.putObj l o) a P:=fun k hk=>by
 obtain ⟨b,q,e,c1,c2⟩:=h k hk
 have hne:b≠l:=fun e2=>by
  rw [e2] at c1
  unfold World.cell? at c1
  rw [hl] at c1
  cases o' <;> simp_all [Obj.isCells]
 exact ⟨b,q,e,(World.cell?_of_block (World.putObj_heap_other hne)).trans c1,(World.cell?_of_block (World.putObj_heap_other hne)).trans c2⟩
theorem FwF.put {w V:World} {n:Nat} {L:Nat→Nat} {X:Nat→Nat→Nat→Int} {words:List Int} {lk rg:Nat} {a:Option Addr} {c:Nat} {P:List Pl} {z:Int} (h:FwF w V n L X words lk rg a c P z) {l:Nat} {o o':Obj} (hl:V.heap[l]? = some o') (hc:o'.isCells=false) (hw:w.heap.size+1+1 < l):FwF w (V.putObj l o) n L X words lk rg a c P z :=
 ⟨(World.putObj_heap_other (by omega)).trans h.hr,(World.putObj_heap_other (by omega)).trans h.hf,h.q,plIn_put h.pl hl hc,h.len,h.low.trans (below_put _ _ (by omega))⟩
abbrev fwSet (w V:World) (sv:Value) (z:Int):World:=(((V.setCell ⟨w.heap.size+1,0,none⟩ sv).setCell ⟨w.heap.size+1+1,0,none⟩ (.int .i64 z)).setCell ⟨w.heap.size+1+1,1,none⟩ (.int .i64 0)).setCell ⟨w.heap.size+1+1,2,none⟩ (.int .i64 0)
theorem fw_set {w V:World} {ca:Option Addr} {n cc:Nat} {wa:Option Addr} {m wc:Nat} {lk rg:Int} (h:FwB w V ca n cc wa m wc lk rg) (sv:Value) (z:Int):(fwSet w V sv z).heap[w.heap.size+1]? = some (.cells #[sv] 46)∧(fwSet w V sv z).heap[w.heap.size+1+1]? = some (.cells #[.int .i64 z,.int .i64 0,.int .i64 0] 30)∧(∀ k,k≠w.heap.size+1→k≠w.heap.size+1+1→(fwSet w V sv z).heap[k]? = V.heap[k]?)∧Below w.heap.size w (fwSet w V sv z)∧(fwSet w V sv z).heap.size=V.heap.size:=by
 refine ⟨?_,?_,fun k h1 h2=>?_,?_,by simp [fwSet,World.setCell]⟩
 ·rw [Below.heap_setCell _ _ _ _ (by show w.heap.size+1≠w.heap.size+1+1; omega),Below.heap_setCell _ _ _ _ (by show w.heap.size+1≠w.heap.size+1+1; omega),Below.heap_setCell _ _ _ _ (by show w.heap.size+1≠w.heap.size+1+1; omega)]
  exact heap_set_same h.hr
 ·have e:(V.setCell ⟨w.heap.size+1,0,none⟩ sv).heap[w.heap.size+1+1]? = some (.cells #[.int .i64 0,.int .i64 0,.int .i64 0] 30):=by
   rw [Below.heap_setCell _ _ _ _ (by show w.heap.size+1+1≠w.heap.size+1; omega)]
   exact h.hf
  exact heap_set_same (heap_set_same (heap_set_same e))
 ·rw [Below.heap_setCell _ _ _ _ h2,Below.heap_setCell _ _ _ _ h2,Below.heap_setCell _ _ _ _ h2,Below.heap_setCell _ _ _ _ h1]
 ·exact (((h.low.setCell (by show w.heap.size≤w.heap.size+1; omega) _).setCell (by show w.heap.size≤w.heap.size+1+1; omega) _).setCell (by show w.heap.size≤w.heap.size+1+1; omega) _).setCell (by show w.heap.size≤w.heap.size+1+1; omega) _
def FwI (S0:World) (n:Nat) (L:Nat→Nat) (X:Nat→Nat→Nat→Int) (words:List Int) (lk rg:Nat) (sc:List Oc) (Ls:List (List Pl)) (V:World):Prop :=
 Below S0.heap.size S0 V∧(∀ S,S∈Ls→S.length≤6)∧∀ P z,FewR (ToldS n L X words lk rg) sc Ls P z→FewR (ToldS n L X words lk rg) sc (setsL (plA L X n)) P z
theorem few_main (w:World) (ca:Option Addr) (n cc:Nat) (wa:Option Addr) (wc lk rg:Nat) (words:List Int) (A:Nat→Option Addr) (L C:Nat→Nat) (X:Nat→Nat→Nat→Int) (hR:chk n L X words.length lk rg=(0,0,0)) (hp:PIn w ca n A L C X) (hc:COk n L X words.length lk rg) (hn0:0 < n) (hw:SIs w wa words) (hnil:wa=none→words=[]∧wc=0) (hfit:∀ t i,t < n→i < L t→I64n (X t i 2)) (hwf:∀ x,x∈words→I64n x) (htab:TabB w.heap.size w) (h6:(plA L X n).length≤6) (ht:∀ l0,¬ Told (nxX L X 0) (outsX L X 0) (beginX n words lk rg) 4000 true l0) :
  Calls Tryz.prog 12 #[prgV ca n cc wa words.length wc lk rg] w (FewE w n L X words lk rg):=by
 have h4:=chk_len hR
 have HCHK:Hid (∀ W,Below w.heap.size w W→Calls Tryz.prog 15 #[prgV ca n cc wa words.length wc lk rg] W fun e w'=>e=.returned (ints3 0 0 0)∧Below W.heap.size W w'):=fun W hb=>check_any ca n cc wa words.length wc lk rg A L C X 0 0 0 hR W (hp.below hb)
 have HLET:Hid (∀ W,Below w.heap.size w W→Calls Tryz.prog 29 #[prgV ca n cc wa words.length wc lk rg] W fun e w'=>∃ a c,e=.returned (.slice a (plA L X n).length c)∧Hid (PlIn w' a (plA L X n)∧(plA L X n).length≤c∧Below W.heap.size W w')):=fun W hb=>(letting_any W ca n cc wa words.length wc lk rg A L C X (hp.below hb) hc.n4 hc.L4).mono fun e w' ⟨v,h1,h2,h3⟩=>by
  obtain ⟨a,c,rfl⟩:=h2.form
  refine ⟨a,c,h1,h2.pl,?_,h3⟩
  rcases h2.2 with ⟨e0,e1⟩ | ⟨g,cap,cur,e0,_,_,h5,_⟩
  ·omega
  ·simp only [Value.slice.injEq] at e0
   rw [e0.2.2]; exact h5
 have HSC:Hid (∀ W,Below w.heap.size w W→Calls Tryz.prog 26 #[prgV ca n cc wa words.length wc lk rg] W fun e w'=>∃ a l c es,e=.returned (.tuple #[.slice a l c,ints3 0 0 0])∧Hid (SpcX W L X 0 (beginX n words lk rg) false a l es w')):=fun W hb=>(sc_yes W ca n cc wa wc lk rg words A L C X hR (hp.below hb) hc hn0 (hw.below hb) hnil hfit hwf (htab.up hb)).mono fun e w' h=>by
  obtain ⟨full,z,a,l,c,es,h1,h2⟩:=h.x
  cases full with
  | true=>exact absurd h2.out.1.1 (ht _)
  | false =>
   have hz:z=0:=h2.out.2
   subst hz
   exact ⟨a,l,c,es,h1,h2.out.1⟩
 have HWT:Hid (∀ V S sa sc',Below w.heap.size w V→PlIn V sa S→S.length≤6→Calls Tryz.prog 31 #[prgV ca n cc wa words.length wc lk rg,.slice sa S.length sc'] V fun e w'=>∃ (full:Bool) (z:Int) (a:Option Addr) (l c:Nat) (es:List En),e=.returned (.tuple #[.slice a l c,ints3 z 0 0])∧Hid (SpcX V (lenR (bSet X S) L) (numR (bSet X S) L) 1 (beginX n words lk rg) full a l es w'∧z=if full then 10 else 0)):=fun V S sa sc' hb hS hl=>(waitW_any V ca n cc wa wc lk rg words A L C X sa sc' S (hp.below hb) hc h4 hn0 (hw.below hb) hnil hfit hwf (htab.up hb) hS (by omega)).mono fun e w' h=>h.x
 obtain ⟨wl,hwl⟩:∃ k,words.length=k:=⟨_,rfl⟩
 obtain ⟨pl,hpl⟩:∃ k,(plA L X n).length=k:=⟨_,rfl⟩
 have HPL:Hid ((plA L X n).length=pl):=hpl
 have HB0:=hiD (fwB_start w ca n cc wa wl wc lk rg)
 rw [hwl] at HCHK HLET HSC HWT ⊢
 rw [hpl] at HLET h6
 have h6':¬ ((pl:Int) > 6):=by omega
 clear hp hc hR hwl hpl ht hn0 hw hnil hfit hwf htab h4
 have c0:=HB0.out.cells
 obtain ⟨⟨p0,p1,p2,p3⟩,_⟩:=c0
 refine (callsIn_wide (n:=0)).1 ?_
 refine callsIn_of_wp_marks Tryz.func12 rfl trivial ?_ rfl
 simp only [Tryz.ntmps12,List.size_toArray,List.length_cons,List.length_nil,Nat.reduceAdd,Nat.reduceSub,Array.replicate_succ,Array.replicate_zero,List.push_toArray,List.append_toArray,List.nil_append,List.cons_append]
 gi_wp2
 refine ⟨trivial,rfl,(callsIn_wide.2 (HCHK.out _ HB0.out.low)).mono ?_⟩
 rintro e w1 ⟨rfl,hb1⟩
 have HB1:Hid (FwB w w1 ca n cc wa wl wc lk rg):=HB0.out.below hb1
 have hup:=fun o=>(HB1.out.below ((Below.refl _ _).alloc (Nat.le_refl _) o)).cells
 have p0:=fun o=>(hup o).1.1
 have p1:=fun o=>(hup o).1.2.1
 have p2:=fun o=>(hup o).1.2.2.1
 have p3:=fun o=>(hup o).1.2.2.2
 clear hb1 hup HCHK HB0
 gi_wp2
 refine ⟨trivial,rfl,(callsIn_wide.2 (HLET.out _ (HB1.out.below ((Below.refl _ _).alloc (Nat.le_refl _) _)).low)).mono ?_⟩
 rintro e w2 ⟨a2,c2,rfl,H2⟩
 have HB2:Hid (FwB w w2 ca n cc wa wl wc lk rg):=(HB1.out.below ((Below.refl _ _).alloc (Nat.le_refl _) _)).below H2.out.2.2
 clear HLET HB1 p0 p1 p2 p3
 obtain ⟨⟨p0,p1,p2,p3⟩,_⟩:=HB2.out.cells
 gi_wp2
 refine ⟨trivial,rfl,(callsIn_wide.2 (HSC.out _ HB2.out.low)).mono ?_⟩
 rintro e w3 ⟨a3,l3,c3,es3,rfl,H3⟩
 have hb3:Below w2.heap.size w2 w3:=H3.out.2.2.2.2.2.2
 clear HSC p0 p1 p2 p3
 gi_wp2
 refine ⟨trivial,rfl,(callsIn_wide.2 (sets_any _ a2 pl c2)).mono ?_⟩
 rintro e w4 ⟨rfl,rfl⟩
 gi_wp2
 obtain ⟨S0,hS0⟩:∃ V,((w3.alloc (.cells #[.slice a3 l3 c3] 40)).alloc (.cells #[.int .i64 0,.int .i64 0,.int .i64 0] 30)).alloc (.cells #[.slice a2 pl c2] 46)=V:=⟨_,rfl⟩
 rw [hS0]
 have hsz:S0.heap.size=w3.heap.size+1+1+1:=by rw [← hS0]; simp
 have hbS:Below w3.heap.size w3 S0:=by rw [← hS0]; exact (((Below.refl _ _).alloc (Nat.le_refl _) _).alloc (by simp) _).alloc (by simp; omega) _
 have hq0:S0.heap[w3.heap.size]? = some (.cells #[.slice a3 l3 c3] 40):=by rw [← hS0]; exact box_later (box_later (heap_alloc_new _ _) _) _
 have hq2:S0.heap[w3.heap.size+1+1]? = some (.cells #[.slice a2 pl c2] 46):=by
  rw [← hS0]
  have:=heap_alloc_new ((w3.alloc (.cells #[.slice a3 l3 c3] 40)).alloc (.cells #[.int .i64 0,.int .i64 0,.int .i64 0] 30)) (.cells #[.slice a2 pl c2] 46)
  simpa using this
 have HBS:Hid (FwB w S0 ca n cc wa wl wc lk rg):=(HB2.out.below hb3).below hbS
 have hpS:PlIn S0 a2 (plA L X n):=(H2.out.1.below hb3).below hbS
 have hlt2:w.heap.size+1+1 < S0.heap.size:=box_lt HBS.out.hf
 have HX3:Hid (∀ V,Below S0.heap.size S0 V→EIn V a3 es3∧(∀ x,x∈es3→EnOk V x)):=fun V hV=>by
  have hbV:=hbS.trans (hV.mono hbS.size)
  exact ⟨H3.out.2.2.1.below hbV,fun x hx=>(H3.out.2.2.2.1 x hx).below hbV⟩
 have hseq:=sets1_any S0 (w3.heap.size+1+1) a2 c2 (plA L X n) (by rw [HPL.out]; exact box_cell hq2 rfl) hpS (by rw [HPL.out]; exact h6) (by rw [HPL.out]; exact H2.out.2.1)
 clear hS0
 refine range_sets (p:=34) (gf:=66) (lb:=#[.pointer (some ⟨w3.heap.size+1+1,0,none⟩)]) rfl (enters_of Tryz.func66 (by kernel_rfl) rfl) (setsL (plA L X n)) hseq (FwI S0 n L X words lk rg (es3.map En.o)) (fun V=>∃ a c P z,FwF w V n L X words lk rg a c P z) (fun Ls V V' h hb=>⟨h.1.trans hb,h.2⟩) (fun V l o r ⟨a,c,P,z,h⟩ hl hr=>⟨a,c,P,z,h.put hr rfl (by omega)⟩) ⟨Below.refl _ _,fun S hS=>?_,fun _ _ h=>h⟩ (fun lp S Tl sa sc V=>?_) (fun W hI hlt hD=>?_) (fun W hFi hlt hD=>?_)
 ·have:=(sets_sub _ _ _ S hS).length_le
  rw [HPL.out] at this
  omega
 ·gi_wp2
  refine ⟨trivial,fun U hI hPl hfar hz=>?_⟩
  have HU:Hid (FwB w U ca n cc wa wl wc lk rg):=HBS.out.below hI.1
  have HI:=hiD hI
  have HPS:=hiD (And.intro hPl hfar)
  have hwt:=HWT.out U S sa sc HU.out.low hPl (hI.2.1 S (by simp))
  have HLS:Hid (S.length≤6):=hI.2.1 S (by simp)
  obtain ⟨sl,hsl⟩:∃ k,S.length=k:=⟨_,rfl⟩
  have HSL:Hid (S.length=sl):=hsl
  rw [hsl] at hwt
  rw [hsl]
  have HWU:=hiD hwt
  obtain ⟨⟨p0,p1,p2,p3⟩,_⟩:=HU.out.cells
  clear hsl hwt hI hPl hfar HWT HB2 H2 hb3 hseq hpS hq2
  gi_wp2
  refine ⟨trivial,rfl,CallsIn.mono (show CallsIn (Fence.wide.inRound lp) 0 _ _ _ _ _ from callsIn_wide.2 HWU.out) ?_⟩
  rintro e u1 ⟨full,z,a4,l4,c4,es4,rfl,H4⟩
  have hb1:Below U.heap.size U u1:=H4.out.1.2.2.2.2.2.2
  clear p0 p1 p2 p3 HWU
  have HO:Hid (∀ o,FwB w (u1.alloc o) ca n cc wa wl wc lk rg∧Below U.heap.size U (u1.alloc o)∧Below S0.heap.size S0 (u1.alloc o)):=fun o=>by
   have hb2:Below U.heap.size U (u1.alloc o):=hb1.alloc hb1.size o
   exact ⟨HU.out.below hb2,hb2,HI.out.1.trans (hb2.mono HI.out.1.size)⟩
  have hup:=fun o=>(HO.out o).1.cells
  have r0:=fun o=>(hup o).2.1
  have f0:=fun o=>(hup o).2.2.1.1
  have f1:=fun o=>(hup o).2.2.1.2.1
  have f2:=fun o=>(hup o).2.2.1.2.2
  have rf:=fun o=>(hup o).2.2.2.1
  have ff:=fun o=>(hup o).2.2.2.2
  have hq:∀ o,(u1.alloc o).cell? ⟨w3.heap.size,0,none⟩=some (.slice a3 l3 c3):=fun o=>by
   have e1:=((HO.out o).2.2.block w3.heap.size (by omega)).trans hq0
   exact box_cell e1 rfl
  have hsU:=HI.out.1.size
  have hsu:=hb1.size
  have n1:u1.heap.size≠w.heap.size+1:=by omega
  have n2:u1.heap.size≠w.heap.size+1+1:=by omega
  have n3:w.heap.size+1≠u1.heap.size:=by omega
  have n4:w.heap.size+1+1≠u1.heap.size:=by omega
  cases full with
  | true =>
   obtain rfl:z=10:=H4.out.2
   have HFQ:Hid (FewQ n L X words lk rg [] 10):=.inr ⟨by rw [HPL.out]; exact h6,.inr ⟨_,H3.out.1,HI.out.2.2 _ _ (.full H4.out.1.1)⟩⟩
   have HEND:Hid (∀ V (a':Act),V=fwSet w (u1.alloc (.cells #[.int .i64 10,.int .i64 0,.int .i64 0] 30)) nilV 10→sePost S0.heap.size (FwI S0 n L X words lk rg (es3.map En.o)) (fun V=>∃ a c P z,FwF w V n L X words lk rg a c P z) Tl U .ret a' V.drew):=fun V _ hV=>by
    obtain ⟨g1,g2,g3,g4,g5⟩:=fw_set (HO.out (.cells #[.int .i64 10,.int .i64 0,.int .i64 0] 30)).1 nilV 10
    rw [← hV] at g1 g2 g3 g4 g5
    refine ⟨⟨?_,fun k hB hk=>?_⟩,none,0,[],10,g1,g2,HFQ.out,plIn_nil _ _,by simp,g4.drew⟩
    ·show _≤V.heap.size
     rw [g5,World.size_alloc]
     omega
    ·show V.heap[k]? = _
     rw [g3 k (by omega) (by omega),(HO.out _).2.1.block k hk]
   clear hup hq
   gi_wp2
   gi_region
   all_goals gi_wp2
   all_goals exact HEND.out _ _ rfl
  | false =>
   obtain rfl:z=0:=H4.out.2
   have HAL:Hid (Calls Tryz.prog 28 #[.slice a3 l3 c3,.slice a4 l4 c4] (u1.alloc (.cells #[.int .i64 0,.int .i64 0,.int .i64 0] 30)) fun e w'=>e=.returned (.bool (decide (es3.map En.o=es4.map En.o)))∧Below (u1.alloc (.cells #[.int .i64 0,.int .i64 0,.int .i64 0] 30)).heap.size (u1.alloc (.cells #[.int .i64 0,.int .i64 0,.int .i64 0] 30)) w'):=by
    have x3:=HX3.out _ (HO.out (.cells #[.int .i64 0,.int .i64 0,.int .i64 0] 30)).2.2
    have x4:=H4.out.1
    have hbA:Below u1.heap.size u1 (u1.alloc (.cells #[.int .i64 0,.int .i64 0,.int .i64 0] 30)):=(Below.refl _ _).alloc (Nat.le_refl _) _
    have h:=equal_any (u1.alloc (.cells #[.int .i64 0,.int .i64 0,.int .i64 0] 30)) a3 a4 es3 es4 c3 c4 x3.1 (x4.2.2.1.below hbA) x3.2 (fun x hx=>(x4.2.2.2.1 x hx).below hbA) (by rw [H3.out.2.1]; exact H3.out.2.2.2.2.1) (by rw [x4.2.1]; exact x4.2.2.2.2.1)
    rw [H3.out.2.1,x4.2.1] at h
    exact alike_any _ a3 a4 l3 l4 c3 c4 _ h
   obtain ⟨r,hr⟩:∃ r,decide (es3.map En.o=es4.map En.o)=r:=⟨_,rfl⟩
   have HR:Hid (decide (es3.map En.o=es4.map En.o)=r):=hr
   rw [hr] at HAL
   clear hr hup r0 f0 f1 f2 rf ff
   gi_wp2
   refine ⟨trivial,rfl,CallsIn.mono (show CallsIn (Fence.wide.inRound lp) 0 _ _ _ _ _ from callsIn_wide.2 HAL.out) ?_⟩
   rintro e u2 ⟨rfl,hb2⟩
   have H2:Hid (FwB w u2 ca n cc wa wl wc lk rg∧Below U.heap.size U u2∧Below S0.heap.size S0 u2):=by
    obtain ⟨g1,g2,g3⟩:=HO.out (.cells #[.int .i64 0,.int .i64 0,.int .i64 0] 30)
    exact ⟨g1.below hb2,g2.trans (hb2.mono g2.size),g3.trans (hb2.mono g3.size)⟩
   clear hb2 hq HAL
   cases r with
   | true =>
    have hse:=of_decide_eq_true HR.out
    have HFQ:Hid (FewQ n L X words lk rg S 0):=.inr ⟨by rw [HPL.out]; exact h6,.inr ⟨_,H3.out.1,HI.out.2.2 _ _ (.hit (by rw [hse]; exact H4.out.1.1))⟩⟩
    have HEND:Hid (∀ V (a':Act),V=fwSet w u2 (.slice sa sl sc) 0→sePost S0.heap.size (FwI S0 n L X words lk rg (es3.map En.o)) (fun V=>∃ a c P z,FwF w V n L X words lk rg a c P z) Tl U .ret a' V):=fun V _ hV=>by
     obtain ⟨g1,g2,g3,g4,g5⟩:=fw_set H2.out.1 (.slice sa sl sc) 0
     rw [← hV] at g1 g2 g3 g4 g5
     rw [← HSL.out] at g1
     refine ⟨⟨by rw [g5]; exact H2.out.2.1.size,fun k hB hk=>?_⟩,sa,sc,S,0,g1,g2,HFQ.out,fun k hk=>?_,HLS.out,g4⟩
     ·rw [g3 k (by omega) (by omega),H2.out.2.1.block k hk]
     ·obtain ⟨b,o,e,k1,k2⟩:=(HPS.out.1.below H2.out.2.1) k hk
      have hb:=HPS.out.2 b o e (by omega)
      have hbk:V.heap[b]? = u2.heap[b]? := g3 b (by omega) (by omega)
      exact ⟨b,o,e,(World.cell?_of_block hbk).trans k1,(World.cell?_of_block hbk).trans k2⟩
    obtain ⟨_,r0,⟨f0,f1,f2⟩,rf,ff⟩:=H2.out.1.cells
    clear hse
    gi_wp2
    all_goals exact HEND.out _ _ rfl
   | false =>
    have hse:=of_decide_eq_false HR.out
    have HEND:Hid (∀ (a':Act),sePost S0.heap.size (FwI S0 n L X words lk rg (es3.map En.o)) (fun V=>∃ a c P z,FwF w V n L X words lk rg a c P z) Tl U .normal a' u2):=fun _=>⟨H2.out.2.1,H2.out.2.2,fun S' hS'=>HI.out.2.1 S' (by simp [hS']),fun P z h=>HI.out.2.2 P z (.next H4.out.1.1 (fun e=>hse e.symm) h)⟩
    clear hse
    gi_wp2
    all_goals exact HEND.out _
 ·have hB:FwB w W ca n cc wa wl wc lk rg:=HBS.out.below hI.1
  have HFQ:Hid (FewQ n L X words lk rg [] 0):=.inr ⟨by rw [HPL.out]; exact h6,.inr ⟨_,H3.out.1,hI.2.2 _ _ .done⟩⟩
  have HS:=hiD (fw_set hB nilV 0)
  obtain ⟨_,r0,⟨f0,f1,f2⟩,rf,ff⟩:=hB.cells
  have HD:Hid ((fwSet w W nilV 0).heap[S0.heap.size]? = some (.deferred (some []))):=(HS.out.2.2.1 _ (by omega) (by omega)).trans hD
  clear hD hI hB hseq hpS hq2 hq0 HX3 HWT H2 HB2
  gi_wp2
  refine ⟨by simp,.inl ⟨_,_,rfl,run_takeDeferred HD.out,?_⟩⟩
  have hFw:FwF w (fwSet w W nilV 0) n L X words lk rg none 0 [] 0:=⟨HS.out.1,HS.out.2.1,HFQ.out,plIn_nil _ _,by simp,HS.out.2.2.2.1⟩
  have hE:=hFw.put (o:=.deferred none) HD.out rfl hlt2
  obtain ⟨V,hV⟩:∃ V,(fwSet w W nilV 0).putObj S0.heap.size (.deferred none)=V:=⟨_,rfl⟩
  rw [hV] at hE
  show LeavesInM _ _ _ _ _ _ _ _ ((fwSet w W nilV 0).putObj S0.heap.size (.deferred none))
  rw [hV]
  have q0:=box_cell (i:=0) hE.hr rfl
  have q1:=box_cell (i:=0) hE.hf rfl
  have q2:=box_cell (i:=1) hE.hf rfl
  have q3:=box_cell (i:=2) hE.hf rfl
  refine ⟨.tuple #[nilV,ints3 0 0 0],?_,none,0,[],0,rfl,hE.q,hE.pl,hE.len,hE.low⟩
  simp [results,Tryz.f12,go_sem,q0,q1,q2,q3]
 ·obtain ⟨a,c,P,z,hFw⟩:=hFi
  clear hseq hpS hq2 hq0 HX3 HWT H2 HB2
  gi_wp2
  refine ⟨by simp,.inl ⟨_,_,rfl,run_takeDeferred hD,?_⟩⟩
  have hE:=hFw.put (o:=.deferred none) hD rfl hlt2
  obtain ⟨V,hV⟩:∃ V,W.putObj S0.heap.size (.deferred none)=V:=⟨_,rfl⟩
  rw [hV] at hE ⊢
  have q0:=box_cell (i:=0) hE.hr rfl
  have q1:=box_cell (i:=0) hE.hf rfl
  have q2:=box_cell (i:=1) hE.hf rfl
  have q3:=box_cell (i:=2) hE.hf rfl
  refine ⟨.tuple #[.slice a P.length c,ints3 z 0 0],?_,a,c,P,z,rfl,hE.q,hE.pl,hE.len,hE.low⟩
  simp [results,Tryz.f12,go_sem,q0,q1,q2,q3]
theorem few_yes (w:World) (ca:Option Addr) (n cc:Nat) (wa:Option Addr) (wc lk rg:Nat) (words:List Int) (A:Nat→Option Addr) (L C:Nat→Nat) (X:Nat→Nat→Nat→Int) (hR:chk n L X words.length lk rg=(0,0,0)) (hp:PIn w ca n A L C X) (hc:COk n L X words.length lk rg) (hn0:0 < n) (hw:SIs w wa words) (hnil:wa=none→words=[]∧wc=0) (hfit:∀ t i,t < n→i < L t→I64n (X t i 2)) (hwf:∀ x,x∈words→I64n x) (htab:TabB w.heap.size w) :
  Calls Tryz.prog 12 #[prgV ca n cc wa words.length wc lk rg] w (FewE w n L X words lk rg):=by
 by_cases h6:(plA L X n).length≤6
 ·by_cases ht:∃ l0,Told (nxX L X 0) (outsX L X 0) (beginX n words lk rg) 4000 true l0
  ·obtain ⟨l0,ht⟩:=ht
   exact few_full w ca n cc wa wc lk rg words A L C X hR hp hc hn0 hw hnil hfit hwf htab h6 l0 ht
  ·exact few_main w ca n cc wa wc lk rg words A L C X hR hp hc hn0 hw hnil hfit hwf htab h6 (fun l0 h=>ht ⟨l0,h⟩)
 ·exact few_many w ca n cc wa wc lk rg words A L C X hR hp hc (by omega)
theorem few_no (w:World) (ca:Option Addr) (n cc:Nat) (wa:Option Addr) (m wc:Nat) (lk rg:Int) (A:Nat→Option Addr) (L C:Nat→Nat) (X:Nat→Nat→Nat→Int) (x y z:Int) (hR:chk n L X m lk rg=(x,y,z)) (hx:x≠0) (hp:PIn w ca n A L C X) :
  Calls Tryz.prog 12 #[prgV ca n cc wa m wc lk rg] w fun e w'=>e=.returned (.tuple #[nilV,ints3 x y z])∧Below w.heap.size w w':=by
 have HCHK:Hid (∀ W,Below w.heap.size w W→Calls Tryz.prog 15 #[prgV ca n cc wa m wc lk rg] W fun e w'=>e=.returned (ints3 x y z)∧Below W.heap.size W w'):=fun W hb=>check_any ca n cc wa m wc lk rg A L C X x y z hR W (hp.below hb)
 have hx':(x != 0)=true:=by simpa using hx
 have HB0:=hiD (fwB_start w ca n cc wa m wc lk rg)
 have c0:=HB0.out.cells
 obtain ⟨⟨p0,p1,p2,p3⟩,_⟩:=c0
 clear hp hR
 go_enter Tryz.func12,Tryz.ntmps12
 go_wp2_with fail
 refine Calls.mono (HCHK.out _ HB0.out.low) ?_
 rintro e w1 ⟨rfl,hb1⟩
 have HB1:Hid (∀ o,FwB w (w1.alloc o) ca n cc wa m wc lk rg):=fun o=>(HB0.out.below hb1).below ((Below.refl _ _).alloc (Nat.le_refl _) o)
 have hup:=fun o=>(HB1.out o).cells
 have r0:=fun o=>(hup o).2.1
 have f0:=fun o=>(hup o).2.2.1.1
 have f1:=fun o=>(hup o).2.2.1.2.1
 have f2:=fun o=>(hup o).2.2.1.2.2
 have rf:=fun o=>(hup o).2.2.2.1
 have ff:=fun o=>(hup o).2.2.2.2
 have hsz:w.heap.size+1+1 < w1.heap.size:=Nat.lt_of_lt_of_le (box_lt HB0.out.hf) hb1.size
 have n1:w1.heap.size≠w.heap.size+1:=by omega
 have n2:w1.heap.size≠w.heap.size+1+1:=by omega
 have n3:w.heap.size+1≠w1.heap.size:=by omega
 have n4:w.heap.size+1+1≠w1.heap.size:=by omega
 have HBB:=hiD (HB1.out (.cells #[.int .i64 x,.int .i64 y,.int .i64 z] 30)).low
 clear hb1 hup HCHK HB0 p0 p1 p2 p3
 go_wp2_with fail
 go_region
 all_goals go_wp2
 all_goals refine bodyPost_ret (v:=.tuple #[nilV,ints3 x y z]) (by simp [results,Tryz.results12,go_sem,cell_set,r0,f0,f1,f2]) rfl ⟨rfl,?_⟩
 all_goals exact (((HBB.out.drew.setCell (by show w.heap.size≤w.heap.size+1; omega) _).setCell (by show w.heap.size≤w.heap.size+1+1; omega) _).setCell (by show w.heap.size≤w.heap.size+1+1; omega) _).setCell (by show w.heap.size≤w.heap.size+1+1; omega) _
end
section
open Go.RowKit Go.Sort Go.Shelf
theorem PIn.norm {w:World} {ca:Option Addr} {n:Nat} {A:Nat→Option Addr} {L C:Nat→Nat} {X:Nat→Nat→Nat→Int} (h:PIn w ca n A L C X):PIn w ca n A (normL n L) C (normX n L X):=by
 have hl:∀ t,t < n→normL n L t=L t:=fun t ht=>if_pos ht
 refine ⟨fun t ht=>?_,fun t i ht hi=>?_,fun t ht=>?_,h.num⟩
 ·rw [hl t ht]; exact h.code t ht
 ·obtain ⟨_,e0,e1,e2,e3⟩:=norm_at (X:=X) ht hi
  rw [e0,e1,e2,e3]
  exact h.ord t i ht (by rw [← hl t ht]; exact hi)
 ·rw [hl t ht]; exact h.len t ht
attribute [local go_sem] eqPl
theorem fewest_no (w:World) (ca:Option Addr) (n cc:Nat) (wa:Option Addr) (m wc:Nat) (lk rg x y z:Int) (hx:x≠0)
  (HV:Hid (∀ W,Below w.heap.size w W→Calls Tryz.prog 6 #[prgV ca n cc wa m wc lk rg] W fun e w'=>∃ b,e=.returned (.bool b)∧Below W.heap.size W w'))
  (HF:Hid (∀ W,Below w.heap.size w W→Calls Tryz.prog 12 #[prgV ca n cc wa m wc lk rg] W fun e w'=>e=.returned (.tuple #[nilV,ints3 x y z])∧Below W.heap.size W w'))
  (HC:Hid (∀ W,Below w.heap.size w W→Calls Tryz.prog 13 #[prgV ca n cc wa m wc lk rg] W fun e w'=>e=.returned (ints3 x y z)∧Below W.heap.size W w')) :
  Calls Tryz.prog 5 #[prgV ca n cc wa m wc lk rg] w fun e w'=>e=.returned (.bool true)∧Below w.heap.size w w':=by
 have hx':(x != 0)=true:=by simpa using hx
 obtain ⟨W0,hW0⟩:∃ V,w.alloc (.cells #[.slice ca n cc,.slice wa m wc,.int .i64 lk,.int .i64 rg] 25)=V:=⟨_,rfl⟩
 have hb0:Below w.heap.size w W0:=by rw [← hW0]; exact (Below.refl _ _).alloc (Nat.le_refl _) _
 have hp0:W0.heap[w.heap.size]? = some (.cells #[.slice ca n cc,.slice wa m wc,.int .i64 lk,.int .i64 rg] 25):=by rw [← hW0]; exact heap_alloc_new _ _
 have HAT:Hid (∀ V,Below W0.heap.size W0 V→Below w.heap.size w V∧V.heap[w.heap.size]? = some (.cells #[.slice ca n cc,.slice wa m wc,.int .i64 lk,.int .i64 rg] 25)):=fun V hb=>⟨hb0.trans (hb.mono hb0.size),(hb.block _ (box_lt hp0)).trans hp0⟩
 have HW0:=hiD hW0
 clear hW0 hb0 hp0 hx
 go_enter Tryz.func5,Tryz.ntmps5
 go_wp2_with fail
 rw [HW0.out]
 refine Calls.mono (HV.out _ (HAT.out _ (Below.refl _ _)).1) ?_
 rintro e w1 ⟨b,rfl,hb1⟩
 obtain ⟨hw1,hp1⟩:=HAT.out w1 hb1
 have HB1:=hiD (And.intro hb1 hw1)
 have p0:=box_cell (i:=0) hp1 rfl
 have p1:=box_cell (i:=1) hp1 rfl
 have p2:=box_cell (i:=2) hp1 rfl
 have p3:=box_cell (i:=3) hp1 rfl
 clear hb1 hw1 hp1 HV
 cases b with
 | true =>
  go_wp2
  go_ret
  exact ⟨rfl,HB1.out.2⟩
 | false =>
  go_wp2_with fail
  refine Calls.mono (HF.out _ HB1.out.2) ?_
  rintro e w2 ⟨rfl,hb2⟩
  have HB2:Hid (∀ o,Below W0.heap.size W0 (w2.alloc o)∧Below w2.heap.size w2 (w2.alloc o)):=fun o=>by
   have h:=HB1.out.1.trans (hb2.mono HB1.out.1.size)
   exact ⟨h.alloc h.size o,(Below.refl _ _).alloc (Nat.le_refl _) o⟩
  clear p0 p1 p2 p3 hb2 HF HB1
  have hpa:=fun o=>(HAT.out _ (HB2.out o).1).2
  have p0:=fun o=>box_cell (i:=0) (hpa o) rfl
  have p1:=fun o=>box_cell (i:=1) (hpa o) rfl
  have p2:=fun o=>box_cell (i:=2) (hpa o) rfl
  have p3:=fun o=>box_cell (i:=3) (hpa o) rfl
  go_wp2_with fail
  refine Calls.mono (HC.out _ (HAT.out _ (HB2.out _).1).1) ?_
  rintro e w3 ⟨rfl,hb3⟩
  have hf3:w3.heap[w2.heap.size]? = some (.cells #[.int .i64 x,.int .i64 y,.int .i64 z] 30):=(hb3.block _ (by simp)).trans (heap_alloc_new _ _)
  have HB3:Hid (∀ o,Below w.heap.size w (w3.alloc o)):=fun o=>by
   have h:=(HB2.out (.cells #[.int .i64 x,.int .i64 y,.int .i64 z] 30)).1
   have h2:=h.trans (hb3.mono h.size)
   have h3:=(HAT.out w3 h2).1
   exact h3.alloc h3.size o
  have f0:=fun o=>cell_up (box_cell (i:=0) hf3 rfl) o
  have f1:=fun o=>cell_up (box_cell (i:=1) hf3 rfl) o
  have f2:=fun o=>cell_up (box_cell (i:=2) hf3 rfl) o
  have hlt:w2.heap.size < w3.heap.size:=box_lt hf3
  have n1:w3.heap.size≠w2.heap.size:=by omega
  have n2:w2.heap.size≠w3.heap.size:=by omega
  clear hpa p0 p1 p2 p3 hb3 hf3 HC HB2
  go_wp2
  go_ret
  exact ⟨rfl,HB3.out _⟩
theorem fewest_walk (w:World) (ca:Option Addr) (n cc:Nat) (wa:Option Addr) (m wc lk rg:Nat) (words:List Int) (L:Nat→Nat) (X:Nat→Nat→Nat→Int)
  (HV:Hid (∀ W,Below w.heap.size w W→Calls Tryz.prog 6 #[prgV ca n cc wa m wc lk rg] W fun e w'=>∃ b,e=.returned (.bool b)∧Below W.heap.size W w'))
  (HF:Hid (∀ W,Below w.heap.size w W→Calls Tryz.prog 12 #[prgV ca n cc wa m wc lk rg] W (FewE W n L X words lk rg)))
  (HC:Hid (∀ W,Below w.heap.size w W→Calls Tryz.prog 13 #[prgV ca n cc wa m wc lk rg] W fun e w'=>e=.returned (ints3 0 0 0)∧Below W.heap.size W w'))
  (HD:Hid (∀ W,Below w.heap.size w W→Calls Tryz.prog 14 #[prgV ca n cc wa m wc lk rg] W (RFewE W n L X words lk rg))) :
  Calls Tryz.prog 5 #[prgV ca n cc wa m wc lk rg] w fun e w'=>e=.returned (.bool true)∧Below w.heap.size w w':=by
 obtain ⟨W0,hW0⟩:∃ V,w.alloc (.cells #[.slice ca n cc,.slice wa m wc,.int .i64 (lk:Int),.int .i64 (rg:Int)] 25)=V:=⟨_,rfl⟩
 have hb0:Below w.heap.size w W0:=by rw [← hW0]; exact (Below.refl _ _).alloc (Nat.le_refl _) _
 have hp0:W0.heap[w.heap.size]? = some (.cells #[.slice ca n cc,.slice wa m wc,.int .i64 (lk:Int),.int .i64 (rg:Int)] 25):=by rw [← hW0]; exact heap_alloc_new _ _
 have HAT:Hid (∀ V,Below W0.heap.size W0 V→Below w.heap.size w V∧V.heap[w.heap.size]? = some (.cells #[.slice ca n cc,.slice wa m wc,.int .i64 (lk:Int),.int .i64 (rg:Int)] 25)):=fun V hb=>⟨hb0.trans (hb.mono hb0.size),(hb.block _ (box_lt hp0)).trans hp0⟩
 have HW0:=hiD hW0
 clear hW0 hb0 hp0
 go_enter Tryz.func5,Tryz.ntmps5
 go_wp2_with fail
 rw [HW0.out]
 refine Calls.mono (HV.out _ (HAT.out _ (Below.refl _ _)).1) ?_
 rintro e w1 ⟨b,rfl,hb1⟩
 obtain ⟨hw1,hp1⟩:=HAT.out w1 hb1
 have HB1:=hiD (And.intro hb1 hw1)
 have p0:=box_cell (i:=0) hp1 rfl
 have p1:=box_cell (i:=1) hp1 rfl
 have p2:=box_cell (i:=2) hp1 rfl
 have p3:=box_cell (i:=3) hp1 rfl
 clear hb1 hw1 hp1 HV
 cases b with
 | true =>
  go_wp2
  go_ret
  exact ⟨rfl,HB1.out.2⟩
 | false =>
  go_wp2_with fail
  refine Calls.mono (HF.out _ HB1.out.2) ?_
  intro e w2 h2
  obtain ⟨a2,c2,P,z,rfl,hq2,hpl2,hl2,hb2⟩:=h2
  have H2:Hid (FewQ n L X words lk rg P z∧PlIn w2 a2 P∧P.length≤6):=⟨hq2,hpl2,hl2⟩
  have HB2:Hid (∀ o,Below W0.heap.size W0 (w2.alloc o)∧Below w2.heap.size w2 (w2.alloc o)):=fun o=>by
   have h:=HB1.out.1.trans (hb2.mono HB1.out.1.size)
   exact ⟨h.alloc h.size o,(Below.refl _ _).alloc (Nat.le_refl _) o⟩
  obtain ⟨pl,hpl⟩:∃ k,P.length=k:=⟨_,rfl⟩
  have HPL:Hid (P.length=pl):=hpl
  rw [hpl] at hl2
  rw [hpl]
  clear p0 p1 p2 p3 hb2 HF HB1 hq2 hpl2 hpl
  have hpa:=fun o=>(HAT.out _ (HB2.out o).1).2
  have p0:=fun o=>box_cell (i:=0) (hpa o) rfl
  have p1:=fun o=>box_cell (i:=1) (hpa o) rfl
  have p2:=fun o=>box_cell (i:=2) (hpa o) rfl
  have p3:=fun o=>box_cell (i:=3) (hpa o) rfl
  go_wp2_with fail
  refine Calls.mono (HC.out _ (HAT.out _ (HB2.out _).1).1) ?_
  rintro e w3 ⟨rfl,hb3⟩
  have hf3:w3.heap[w2.heap.size]? = some (.cells #[.int .i64 z,.int .i64 0,.int .i64 0] 30):=(hb3.block _ (by simp)).trans (heap_alloc_new _ _)
  have HB3:Hid (∀ o,Below W0.heap.size W0 (w3.alloc o)∧Below w2.heap.size w2 (w3.alloc o)∧(w3.alloc o).heap[w2.heap.size]? = some (.cells #[.int .i64 z,.int .i64 0,.int .i64 0] 30)):=fun o=>by
   have h:=HB2.out (.cells #[.int .i64 z,.int .i64 0,.int .i64 0] 30)
   have h2:=h.1.trans (hb3.mono h.1.size)
   have h3:=h.2.trans (hb3.mono h.2.size)
   exact ⟨h2.alloc h2.size o,h3.alloc h3.size o,box_later hf3 o⟩
  clear hpa p0 p1 p2 p3 hb3 hf3 HC HB2
  have hpa:=fun o=>(HAT.out _ (HB3.out o).1).2
  have p0:=fun o=>box_cell (i:=0) (hpa o) rfl
  have p1:=fun o=>box_cell (i:=1) (hpa o) rfl
  have p2:=fun o=>box_cell (i:=2) (hpa o) rfl
  have p3:=fun o=>box_cell (i:=3) (hpa o) rfl
  go_wp2_with fail
  refine Calls.mono (HD.out _ (HAT.out _ (HB3.out _).1).1) ?_
  intro e w4 h4
  obtain ⟨a4,c4,P',z',rfl,hq4,hpl4,_,hb4⟩:=h4
  obtain ⟨e1,e2⟩:=H2.out.1.same hq4
  subst e1
  subst e2
  rw [HPL.out]
  have hb3':=HB3.out (.cells #[.int .i64 0,.int .i64 0,.int .i64 0] 30)
  have HB4:Hid (Below w.heap.size w w4∧PlIn w4 a2 P∧PlIn w4 a4 P):=by
   have h1:=hb3'.1.trans (hb4.mono hb3'.1.size)
   have h2:=hb3'.2.1.trans (hb4.mono hb3'.2.1.size)
   exact ⟨(HAT.out _ h1).1,H2.out.2.1.below h2,hpl4⟩
  have hf4:w4.heap[w2.heap.size]? = some (.cells #[.int .i64 z,.int .i64 0,.int .i64 0] 30):=(hb4.block _ (box_lt hb3'.2.2)).trans hb3'.2.2
  have f0:=box_cell (i:=0) hf4 rfl
  have f1:=box_cell (i:=1) hf4 rfl
  have f2:=box_cell (i:=2) hf4 rfl
  clear hpa p0 p1 p2 p3 hb4 hf4 hb3' hpl4 hq4 HD HB3 H2 HAT
  go_wp2
  go_loopw [8] (fun i wr=>∃ k:Nat,k≤pl∧i=.int .i64 k∧Hid (Below w4.heap.size w4 wr)) (fun i _=>pl - (intOf i).toNat)
  case atStart=>exact ⟨0,Nat.zero_le _,rfl,Below.refl _ _⟩
  case round =>
   obtain ⟨k,hk,rfl,HK⟩:=hrel
   by_cases hlt:k < pl
   ·obtain ⟨b2,o2,rfl,x0,x1⟩:=(HB4.out.2.1.below HK.out) k (by rw [HPL.out]; exact hlt)
    obtain ⟨b4,o4,rfl,y0,y1⟩:=(HB4.out.2.2.below HK.out) k (by rw [HPL.out]; exact hlt)
    obtain ⟨pk,hpk⟩:∃ p,P.getD k (0,0)=p:=⟨_,rfl⟩
    rw [hpk] at x0 x1 y0 y1
    clear hpk
    go_wp2
    go_region
    all_goals go_wp2
    all_goals go_roundw
    case rel=>exact ⟨k+1,by omega,by go_num,HK.out.drew⟩
    case measure=>simp [intOf]; omega
   ·go_wp2
    go_ret
    exact ⟨rfl,HB4.out.1.trans (HK.out.mono HB4.out.1.size)⟩
theorem fenceFewest_any (w:World) (ca:Option Addr) (n cc:Nat) (wa:Option Addr) (wc:Nat) (lk rg:Int) (words:List Int) (A:Nat→Option Addr) (L C:Nat→Nat) (X:Nat→Nat→Nat→Int) (hm:words.length≤9223372036854775807) (hp:PIn w ca n A L C X) (hw:SIs w wa words) (hnil:wa=none→words=[]∧wc=0) (hfit:∀ t i,t < n→i < L t→I64n (X t i 2)) (hwf:∀ x,x∈words→I64n x) (htab:TabB w.heap.size w) :
  Calls Tryz.prog 5 #[prgV ca n cc wa words.length wc lk rg] w fun e w'=>e=.returned (.bool true)∧Below w.heap.size w w':=by
 have hpn:=hp.norm
 have hN:=norm_is n L X
 have hfn:∀ t i,t < n→i < normL n L t→I64n (normX n L X t i 2):=fun t i ht hi=>by
  obtain ⟨e,_,_,e2,_⟩:=norm_at (X:=X) ht hi
  rw [e2]
  exact hfit t i ht (by rw [← e]; exact hi)
 obtain ⟨L',hL'⟩:∃ f,normL n L=f:=⟨_,rfl⟩
 obtain ⟨X',hX'⟩:∃ f,normX n L X=f:=⟨_,rfl⟩
 rw [hL',hX'] at hpn hN
 rw [hL',hX'] at hfn
 have HV:Hid (∀ W,Below w.heap.size w W→Calls Tryz.prog 6 #[prgV ca n cc wa words.length wc lk rg] W fun e w'=>∃ b,e=.returned (.bool b)∧Below W.heap.size W w'):=fun W hb=>(vast_any ca n cc wa words.length wc lk rg A L C X hm W (hp.below hb)).mono fun e w' ⟨⟨b,h1⟩,h2⟩=>⟨b,h1,h2⟩
 obtain ⟨x,y,z,hR⟩:∃ x y z,chk n L' X' words.length lk rg=(x,y,z):=⟨_,_,_,rfl⟩
 by_cases hx:x=0
 ·obtain ⟨rfl,rfl,hn0,lk',rg',rfl,rfl,hc⟩:=chk_cok hR hx
  subst hx
  refine fewest_walk w ca n cc wa words.length wc lk' rg' words L' X' HV (fun W hb=>?_) (fun W hb=>?_) (fun W hb=>?_)
  ·exact few_yes W ca n cc wa wc lk' rg' words A L' C X' hR (hpn.below hb) hc hn0 (hw.below hb) hnil hfn hwf (htab.up hb)
  ·exact rcheck_any ca n cc wa words.length wc lk' rg' A L' C X' 0 0 0 hR W (hpn.below hb)
  ·exact rfew_any W ca n cc wa wc lk' rg' words A L' C X' (hpn.below hb) (hw.below hb) hc (chk_len hR) hn0 hN
 ·refine fewest_no w ca n cc wa words.length wc lk rg x y z hx HV (fun W hb=>?_) (fun W hb=>?_)
  ·exact few_no W ca n cc wa words.length wc lk rg A L' C X' x y z hR hx (hpn.below hb)
  ·exact rcheck_any ca n cc wa words.length wc lk rg A L' C X' x y z hR W (hpn.below hb)
end
end Go.Proofs.YtelckcpjmekgcacGreatDoor
