import Derived.Deep.RegionWith
import Derived.Test.YtelckcpjmekgcacGreatDoorZBy1
import Derived.Shelf.SlSortCmp.NoneTotal
namespace Go.Proofs.YtelckcpjmekgcacGreatDoor
set_option maxHeartbeats 3200000
set_option maxRecDepth 100000
section
open Go.RowKit Go.Sort Go.Shelf
theorem OlI.push_at {W:World} {B km lb:Nat} {es:List En} (h:OlI W B km lb es) (hB:B≤W.heap.size) {n:Nat} (hn:es.length=n) (hlen:n≤90000) (e:En) (he:EnJ W B e) {a:Option Addr} {c:Nat} (hc:W.cell? ⟨lb,0,none⟩=some (.slice a n c)) : 
  ∃ g cap w3,(AppS #[40,40] 40 #[.slice a n c,.slice (some ⟨W.heap.size,0,none⟩) 1 1]).run Tryz.prog (W.alloc (.cells #[.int .i64 e.o.st,.slice e.wa e.o.ws.length e.wc,.slice e.pa e.o.pr.length e.pc] 67))=.ok (.slice (some ⟨g,0,none⟩) (n+1) cap) w3∧w3.cell? ⟨lb,0,none⟩=some (.slice a n c)∧w3.frozen? ⟨lb,0,none⟩=false ∧
   Hid (OlI (w3.setCell ⟨lb,0,none⟩ (.slice (some ⟨g,0,none⟩) (n+1) cap)) B km lb (es++[e])∧Fr B (NO km) W (w3.setCell ⟨lb,0,none⟩ (.slice (some ⟨g,0,none⟩) (n+1) cap))):=by
 subst hn
 obtain ⟨a',c',h1,h2⟩:=h.push hB hlen e he
 rw [hc] at h1
 simp only [Option.some.injEq,Value.slice.injEq,true_and] at h1
 obtain ⟨rfl,rfl⟩:=h1
 exact h2
attribute [local go_sem ↓] appS_eq
theorem ofell_any (c:Wc) (lb:Nat) (W:World) (es:List En) (sb mb bb:Nat) (v:Rp→Value) (s:Sx) (hI:OlI W c.B c.km lb es) (hl:es.length≤90000) (hq:QSt W 0 (c.Q.at bb) sb mb v s) (hp:s.prints.length≤100000) (hB:c.B≤W.heap.size) :
  Calls Tryz.prog 99 #[.pointer (some ⟨sb,0,none⟩),.pointer (some ⟨lb,0,none⟩)] W fun e W'=>e=.returned (.tuple #[])∧Fr c.B (NO c.km) W W'∧∃ x,x.o=⟨1,[],s.prints⟩∧OlI W' c.B c.km lb (es++[x]):=by
 obtain ⟨a,cp,hbx,_,_⟩:=hI.box
 have hcell:W.cell? ⟨lb,0,none⟩=some (.slice a es.length cp):=box_cell hbx rfl
 have HC:Hid (∀ V,Below W.heap.size W V→Calls Tryz.prog 98 #[.pointer (some ⟨sb,0,none⟩)] V fun e w'=>∃ a c,e=.returned (.slice a s.prints.length c)∧w'.ownsRow V.heap.size 3 1 (.slice a s.prints.length c) s.prints.length (intsV s.prints)∧Below V.heap.size V w'):=fun V hb=>prints_any V 0 (c.Q.at bb) sb mb v s (hq.below hb) (by omega)
 have HI:=hiD (And.intro hI hB)
 have HPL:Hid (s.prints.length≤100000):=hp
 obtain ⟨n,hn⟩:∃ n,es.length=n:=⟨_,rfl⟩
 have HN:Hid (es.length=n):=hn
 obtain ⟨pn,hpn⟩:∃ n,s.prints.length=n:=⟨_,rfl⟩
 have HPN:Hid (s.prints.length=pn):=hpn
 rw [hn] at hcell hl
 rw [hpn] at HC
 have HFIN:Hid (∀ w2 pa pcc,w2.ownsRow W.drew.heap.size 3 1 (.slice pa pn pcc) pn (intsV s.prints)→Below W.drew.heap.size W.drew w2→w2.cell? ⟨lb,0,none⟩=some (.slice a n cp)∧∃ g cap w3,(AppS #[40,40] 40 #[.slice a n cp,.slice (some ⟨w2.heap.size,0,none⟩) 1 1]).run Tryz.prog (w2.alloc (.cells #[.int .i64 1,nilV,.slice pa pn pcc] 67))=.ok (.slice (some ⟨g,0,none⟩) (n+1) cap) w3∧w3.cell? ⟨lb,0,none⟩=some (.slice a n cp)∧w3.frozen? ⟨lb,0,none⟩=false ∧
   Hid (∃ x,x.o=⟨1,[],s.prints⟩∧OlI (w3.setCell ⟨lb,0,none⟩ (.slice (some ⟨g,0,none⟩) (n+1) cap)) c.B c.km lb (es++[x])∧Fr c.B (NO c.km) W (w3.setCell ⟨lb,0,none⟩ (.slice (some ⟨g,0,none⟩) (n+1) cap)))):=fun w2 pa pcc h1 h2=>by
  have hb:Below W.heap.size W w2:=(Below.refl _ _).drew.trans h2
  have hc2:=(hb.cell (lt_of_cell hcell)).trans hcell
  refine ⟨hc2,?_⟩
  have hJ:EnJ w2 c.B ⟨⟨1,[],s.prints⟩,none,0,pa,pcc⟩:=⟨World.ownsRow_nil _ _ _ _,by
   show World.ownsRow _ _ _ _ (.slice pa s.prints.length pcc) s.prints.length _
   rw [hpn]
   exact own_low h1 hB,Nat.zero_le _,hp⟩
  obtain ⟨g,cap,w3,r1,z1,z2,HH⟩:=(hI.below hB hb).push_at (Nat.le_trans hB hb.size) hn hl _ hJ hc2
  refine ⟨g,cap,w3,?_,z1,z2,⟨_,rfl,HH.out.1,(Fr.of_below hB hb).trans HH.out.2⟩⟩
  rw [← hpn]
  exact r1
 clear hI hbx hq hB hn hpn hp
 go_enter Tryz.func99,Tryz.ntmps99
 go_wp2_with fail
 go_region_with (go_at_call 98; refine Calls.mono (HC.out _ (Below.refl _ _).drew) ?_; rintro e w2 ⟨pa,pcc,rfl,ho2,hb2⟩; have HI2:=HFIN.out w2 pa pcc ho2 hb2; clear ho2 hb2; obtain ⟨z0,g,cap,w3,r1,z1,z2,HR⟩:=HI2; have z4:=cell_up z0)
 all_goals go_end0
 all_goals obtain ⟨x,hx,h1,h2⟩:=HR.out
 all_goals exact ⟨rfl,h2,x,hx,h1⟩
def SeeQ (c:Wc) (lb:Nat) (W:World) (es:List En) (s:Sx) (W':World):Prop:=Fr c.B (NO c.km) W W'∧∃ es',OlI W' c.B c.km lb es'∧es'.length≤es.length+1∧∀ o,o∈es'.map En.o↔o∈es.map En.o∨(movesX c.Q.L c.X c.mode s=[]∧o=⟨if endedX c.Q.L s then 0 else 2,s.words,s.prints⟩)
theorem osee_any (c:Wc) (hc:WcOk c) (lb:Nat) (W:World) (es:List En) (sb mb bb:Nat) (v:Rp→Value) (s:Sx) (k:Nat) (hI:OlI W c.B c.km lb es) (hl:es.length≤90000) (hq:QSt W 0 (c.Q.at bb) sb mb v s) (hs:StP c k s) (hk:k≤4500) (hlow:Below c.B c.w0 W) :
  Calls Tryz.prog 96 #[.pointer (some ⟨sb,0,none⟩),.pointer (some ⟨lb,0,none⟩)] W fun e W'=>e=.returned (.tuple #[])∧SeeQ c lb W es s W':=by
 have hB:c.B≤W.heap.size:=by rw [hc.Bw]; exact hlow.size
 have HP:Hid (Calls Tryz.prog 78 #[.pointer (some ⟨sb,0,none⟩)] W fun e w'=>∃ a len cp,e=.returned (.slice a len cp)∧(movesX c.Q.L c.X c.mode s).length=len∧Below W.heap.size W w'):=by
  refine (picks_any W 0 (c.Q.at bb) sb mb v s c.ca c.X c.n c.m c.lk c.rg hc.n0 hq hc.hM (Nat.zero_le _) hc.nt hs.ok hc.cok (hc.prog.below (by have:=hlow; rw [hc.Bw] at this; exact this))).mono ?_
  rintro e w' ⟨a,len,cp,he,hp,hb⟩
  exact ⟨a,len,cp,he,hp.is,hb⟩
 have hm16:(movesX c.Q.L c.X c.mode s).length≤16:=by
  have h1:=mvsT_len c.Q.L c.X c.mode s (fun t ht=>hs.ok.wlen t (by rw [← hs.ok.ths]; exact ht)) s.ths.length (Nat.le_refl _)
  rw [mvsT_all] at h1
  have h2:=hs.ok.ths
  have h3:=hc.cok.n4
  omega
 obtain ⟨ML,hML⟩:∃ n,(movesX c.Q.L c.X c.mode s).length=n:=⟨_,rfl⟩
 have HML:Hid ((movesX c.Q.L c.X c.mode s).length=ML):=hML
 rw [hML] at HP hm16
 by_cases hz:ML=0
 ·subst hz
  have hnil:movesX c.Q.L c.X c.mode s=[]:=List.eq_nil_of_length_eq_zero hML
  obtain ⟨st,hst⟩:∃ st:Int,(if endedX c.Q.L s then 0 else 2)=st:=⟨_,rfl⟩
  have HRE:Hid (∀ V,Below W.heap.size W V→Calls Tryz.prog 97 #[.pointer (some ⟨sb,0,none⟩)] V fun e w'=>e=.returned (.int .i64 st)∧Below V.heap.size V w'):=fun V hb=>by
   have h:=rest_any V 0 (c.Q.at bb) sb mb v s c.n (hq.below hb) hs.ok.ths hc.n0 hc.cok.n4 hc.cok.L4 hs.ok.pc
   rw [← ended_bare (fun t ht=>moves_bare hnil ht)] at h
   rw [← hst]
   exact h
  have HWO:Hid (∀ V,Below W.heap.size W V→Calls Tryz.prog 189 #[.pointer (some ⟨mb,0,none⟩)] V fun e w'=>∃ a cap,e=.returned (.slice a s.words.length cap)∧w'.ownsRow V.heap.size 3 1 (.slice a s.words.length cap) s.words.length (intsV s.words)∧Below V.heap.size V w'):=fun V hb=>words_any V 0 (c.Q.at bb) sb mb v s (hq.below hb) (by rw [hs.ok.words]; exact hc.cok.m64)
  have HPR:Hid (∀ V,Below W.heap.size W V→Calls Tryz.prog 98 #[.pointer (some ⟨sb,0,none⟩)] V fun e w'=>∃ a c,e=.returned (.slice a s.prints.length c)∧w'.ownsRow V.heap.size 3 1 (.slice a s.prints.length c) s.prints.length (intsV s.prints)∧Below V.heap.size V w'):=fun V hb=>prints_any V 0 (c.Q.at bb) sb mb v s (hq.below hb) (by have:=hs.pr; omega)
  have HMW : Hid (∀ V, Below W.heap.size W V → (method 380 c.Q.K.tid (.pointer (some ⟨(c.Q.at bb).top mb, 0, none⟩)) "Words").run Tryz.prog V = .ok (189, .pointer (some ⟨mb, 0, none⟩)) V) := fun V hb => hc.hM.mWords V 0 (c.Q.at bb) sb mb v s rfl (hq.below hb)
  have HC0:Hid (∀ V,Below W.heap.size W V→V.cell? ⟨sb,0,none⟩=some (.iface c.Q.K.tid (.pointer (some ⟨(c.Q.at bb).top mb,0,none⟩)))):=fun V hb=>(hq.below hb).c0
  obtain ⟨a,cp,hbx,_,_⟩:=hI.box
  have hcell:W.cell? ⟨lb,0,none⟩=some (.slice a es.length cp):=box_cell hbx rfl
  obtain ⟨n,hn⟩:∃ n,es.length=n:=⟨_,rfl⟩
  have HN:Hid (es.length=n):=hn
  obtain ⟨pn,hpn⟩:∃ n,s.prints.length=n:=⟨_,rfl⟩
  obtain ⟨wn,hwn⟩:∃ n,s.words.length=n:=⟨_,rfl⟩
  rw [hn] at hcell hl
  have HFIN:Hid (∀ w3 w4 b wa wcc pa pcc,W.heap.size≤b→w3.ownsRow b 3 1 (.slice wa wn wcc) wn (intsV s.words)→Below W.heap.size W w3→w4.ownsRow w3.heap.size 3 1 (.slice pa pn pcc) pn (intsV s.prints)→Below w3.heap.size w3 w4→∃ g cap w5,(AppS #[40,40] 40 #[.slice a n cp,.slice (some ⟨w4.heap.size,0,none⟩) 1 1]).run Tryz.prog (w4.alloc (.cells #[.int .i64 st,.slice wa wn wcc,.slice pa pn pcc] 67))=.ok (.slice (some ⟨g,0,none⟩) (n+1) cap) w5∧w5.cell? ⟨lb,0,none⟩=some (.slice a n cp)∧w5.frozen? ⟨lb,0,none⟩=false ∧
    Hid (∃ x,x.o=⟨st,s.words,s.prints⟩∧OlI (w5.setCell ⟨lb,0,none⟩ (.slice (some ⟨g,0,none⟩) (n+1) cap)) c.B c.km lb (es++[x])∧Fr c.B (NO c.km) W (w5.setCell ⟨lb,0,none⟩ (.slice (some ⟨g,0,none⟩) (n+1) cap)))):=fun w3 w4 b wa wcc pa pcc hb0 h1 h2 h3 h4=>by
   have hb:Below W.heap.size W w4:=h2.trans (h4.mono h2.size)
   have hc2:=(hb.cell (lt_of_cell hcell)).trans hcell
   have hJ:EnJ w4 c.B ⟨⟨st,s.words,s.prints⟩,wa,wcc,pa,pcc⟩:=⟨by
    show World.ownsRow _ _ _ _ (.slice wa s.words.length wcc) s.words.length _
    rw [hwn]
    exact own_low (fam_keeps h1 (fun g hg=>h4.block g (h1.lt g hg).2)) (Nat.le_trans hB hb0),by
    show World.ownsRow _ _ _ _ (.slice pa s.prints.length pcc) s.prints.length _
    rw [hpn]
    exact own_low h3 (Nat.le_trans hB h2.size),by
    show s.words.length≤_
    rw [hs.ok.words]; have:=hc.cok.m64; omega,by
    show s.prints.length≤_
    have:=hs.pr; omega⟩
   obtain ⟨g,cap,w5,r1,z1,z2,HH⟩:=(hI.below hB hb).push_at (Nat.le_trans hB hb.size) hn hl _ hJ hc2
   refine ⟨g,cap,w5,?_,z1,z2,⟨_,rfl,HH.out.1,(Fr.of_below hB hb).trans HH.out.2⟩⟩
   rw [← hpn,← hwn]
   exact r1
  have HLB:Hid (∀ V,Below W.heap.size W V→V.cell? ⟨lb,0,none⟩=some (.slice a n cp)):=fun V hb=>(hb.cell (lt_of_cell hcell)).trans hcell
  have HEND:Hid (∀ W',(∃ x,x.o=⟨st,s.words,s.prints⟩∧OlI W' c.B c.km lb (es++[x])∧Fr c.B (NO c.km) W W')→SeeQ c lb W es s W'):=fun W' ⟨x,hx,h1,h2⟩=>by
   refine ⟨h2,_,h1,by rw [List.length_append]; exact Nat.le_refl _,fun o=>?_⟩
   rw [List.map_append,List.mem_append,List.map_singleton,List.mem_singleton,hx,hst]
   exact ⟨fun h=>h.imp id (fun h=>⟨hnil,h⟩),fun h=>h.imp id (·.2)⟩
  rw [hwn] at HWO
  rw [hpn] at HPR
  clear hI hbx hq hB hn hpn hwn hs hk hlow hcell hc hst hML hnil HML
  go_enter Tryz.func96,Tryz.ntmps96
  go_wp2_with fail
  refine Calls.mono HP.out ?_
  rintro e w1 ⟨a1,l1,c1,rfl,rfl,hb1⟩
  have u0:=HC0.out w1 hb1
  have u1:=HLB.out w1 hb1
  clear HP
  go_wp2_with fail
  go_region_with (first | (go_at_call 97; refine Calls.mono (HRE.out _ hb1.drew) ?_; rintro e w2 ⟨rfl,hb2⟩; have hB2:Below W.heap.size W w2:=hb1.drew.trans (hb2.mono hb1.size); have y0:=HC0.out w2 hB2; have y1:=HLB.out w2 hB2; have y2:=HMW.out w2 hB2) | (go_at_call 189; refine Calls.mono (HWO.out _ hB2) ?_; rintro e w3 ⟨wa,wcc,rfl,ho3,hb3⟩; have hB3:Below W.heap.size W w3:=hB2.trans (hb3.mono hB2.size); have x1:=HLB.out w3 hB3) | (go_at_call 98; refine Calls.mono (HPR.out _ hB3) ?_; rintro e w4 ⟨pa,pcc,rfl,ho4,hb4⟩; have hB4:Below W.heap.size W w4:=hB3.trans (hb4.mono hB3.size); have v1:=HLB.out w4 hB4; have v2:=cell_up v1; obtain ⟨g,cap,w5,r1,z1,z2,HR⟩:=HFIN.out w3 w4 _ wa wcc pa pcc hB2.size ho3 hB3 ho4 hb4; clear ho3 ho4))
  all_goals go_end0
  all_goals exact ⟨rfl,HEND.out _ HR.out⟩
 ·have hne:movesX c.Q.L c.X c.mode s≠[]:=fun e=>hz (by rw [← hML,e]; rfl)
  have HI:Hid (∀ V,Below W.heap.size W V→SeeQ c lb W es s V):=fun V hb=>⟨Fr.of_below hB hb,es,hI.below hB hb,Nat.le_succ _,fun o=>⟨Or.inl,fun h=>h.resolve_right (fun h=>hne h.1)⟩⟩
  have hz':¬ (ML:Int)=0:=by omega
  clear hI hq hB hs hk hlow hc hML hne
  go_enter Tryz.func96,Tryz.ntmps96
  go_wp2_with fail
  refine Calls.mono HP.out ?_
  rintro e w1 ⟨a1,l1,c1,rfl,rfl,hb1⟩
  clear HP
  go_wp2_with fail
  go_end0
  exact ⟨rfl,HI.out _ (by first | exact hb1 | exact hb1.drew)⟩
end
section
open Go.RowKit Go.Sort Go.Shelf
section
variable {L:Nat→Nat} {X:Nat→Nat→Nat→Int} {mode:Int} {Z F:List Sx} {s:Sx} {o:Oc}
theorem outc_see:outcX L X mode (Z++[s]) F o↔outcX L X mode Z F o∨(movesX L X mode s=[]∧o=⟨if endedX L s then 0 else 2,s.words,s.prints⟩):=by
 unfold outcX
 constructor
 ·rintro (⟨t,ht,h⟩ | h)
  ·rcases List.mem_append.mp ht with ht | ht
   ·exact Or.inl (Or.inl ⟨t,ht,h⟩)
   ·rw [List.mem_singleton.mp ht] at h; exact Or.inr h
  ·exact Or.inl (Or.inr h)
 ·rintro ((⟨t,ht,h⟩ | h) | h)
  ·exact Or.inl ⟨t,List.mem_append_left _ ht,h⟩
  ·exact Or.inr h
  ·exact Or.inl ⟨s,by simp,h⟩
theorem outc_fell:outcX L X mode Z (F++[s]) o↔outcX L X mode Z F o∨o=⟨1,[],s.prints⟩:=by
 unfold outcX
 constructor
 ·rintro (h | ⟨t,ht,h⟩)
  ·exact Or.inl (Or.inl h)
  ·rcases List.mem_append.mp ht with ht | ht
   ·exact Or.inl (Or.inr ⟨t,ht,h⟩)
   ·rw [List.mem_singleton.mp ht] at h; exact Or.inr h
 ·rintro ((h | ⟨t,ht,h⟩) | h)
  ·exact Or.inl h
  ·exact Or.inr ⟨t,List.mem_append_left _ ht,h⟩
  ·exact Or.inr ⟨s,by simp,h⟩
end
def ObO (c:Wc) (lb:Nat) (W:World) (Z F:List Sx):Prop:=∃ es,OlI W c.B c.km lb es∧(∀ o,o∈es.map En.o↔outcX c.Q.L c.X c.mode Z F o)∧es.length≤Z.length+F.length
theorem obs_out (c:Wc) (hc:WcOk c) (hty:∀ r,pTy c.Q.K r≠67∧pTy c.Q.K r≠40) (lb:Nat):Obs c 96 99 #[.pointer (some ⟨lb,0,none⟩)] #[.pointer (some ⟨lb,0,none⟩)] (NO c.km) (ObO c lb) where
 fnS:=enters_of Tryz.func96 (by kernel_rfl) rfl
 fnF:=enters_of Tryz.func99 (by kernel_rfl) rfl
 n1 k cs t ht:=by
  refine no_cells (fun e=>?_) (fun e=>?_)
  ·rw [e] at ht; revert ht; unfold wTy; decide
  ·rw [e] at ht; revert ht; unfold wTy; decide
 n2 o h:=h.1 rfl
 n3 r k cs:=no_cells (hty r).1 (hty r).2
 keep W W' Z F h hf:=by
  obtain ⟨es,h1,h2⟩:=h
  exact ⟨es,h1.fr hf (fun k c=>nw_cells (by unfold wTy; decide)) (fun k c=>nw_cells (by unfold wTy; decide)) (fun k c=>nw_cells (by unfold wTy; decide)),h2⟩
 see W Z F sb mb bb v s k h hq hs hk hZ hF hlow:=by
  obtain ⟨es,h1,h2,h3⟩:=h
  refine Calls.mono (osee_any c hc lb W es sb mb bb v s k h1 (by omega) hq hs hk hlow) ?_
  rintro e W' ⟨he,hfr,es',g1,g2,g3⟩
  refine ⟨he,⟨es',g1,fun o=>?_,by rw [List.length_append,List.length_singleton]; omega⟩,hfr⟩
  rw [g3 o,h2 o]
  exact outc_see.symm
 fell W Z F sb mb bb v s h hq hp hZ hF hlow:=by
  obtain ⟨es,h1,h2,h3⟩:=h
  refine Calls.mono (ofell_any c lb W es sb mb bb v s h1 (by omega) hq (by omega) (by rw [hc.Bw]; exact hlow.size)) ?_
  rintro e W' ⟨he,hfr,x,hx,g1⟩
  refine ⟨he,⟨es++[x],g1,fun o=>?_,by rw [List.length_append,List.length_append,List.length_singleton,List.length_singleton]; omega⟩,hfr⟩
  rw [List.map_append,List.mem_append,h2 o,List.map_singleton,List.mem_singleton,hx]
  exact outc_fell.symm
end
section
open Go.RowKit Go.Sort Go.Shelf
section
variable {w w':World} {B:Nat} {a:Option Addr} {n c:Nat} {es:List En}
theorem IsO.lies (h:IsO w B a n c es):(a=none∧n=0∧c=0)∨∃ g cur,a=some ⟨g,0,none⟩∧B≤g∧n≤c∧w.heap[g]? = some (.cells cur 67):=by
 rcases h.own.2 with ⟨h0,_⟩ | ⟨g,cap,cur,hv,hg,hh,h1,_⟩
 ·simp only [Value.slice.injEq] at h0
  exact Or.inl h0
 ·simp only [Value.slice.injEq,true_and] at hv
  exact Or.inr ⟨g,cur,hv.1,hg,by rw [hv.2]; exact h1,hh⟩
theorem EnJ.srt {e:En} {g:Nat} {cur:Array Value} (h:EnJ w B e) (hg:w.heap[g]? = some (.cells cur 67)) (hs:Srt B w w' (some ⟨g,0,none⟩)):EnJ w' B e:=by
 refine ⟨fam_keeps h.ws (fun k hk=>hs.kept k (h.ws.lt k hk).2 (fun p hp e=>?_)),fam_keeps h.pr (fun k hk=>hs.kept k (h.pr.lt k hk).2 (fun p hp e=>?_)),h.wl,h.pl⟩
 ·rw [← Option.some.inj hp] at e
  exact own_type h.ws hg (by decide) (by rw [hk]; exact congrArg some e.symm)
 ·rw [← Option.some.inj hp] at e
  exact own_type h.pr hg (by decide) (by rw [hk]; exact congrArg some e.symm)
theorem sortJ_any (h:IsO w B a es.length c es) (hJ:∀ e,e∈es→EnJ w B e) (hB:B≤w.heap.size) (hl:es.length≤100000) :
  Calls Tryz.prog 100 #[.slice a es.length c,.func (.func 101) #[] #[]] w fun e w'=>e=.returned (.tuple #[])∧∃ es',es'.Perm es∧es'.Pairwise (fun x y=>aheadO y.o x.o=false)∧IsO w' B a es.length c es'∧(∀ e,e∈es'→EnJ w' B e)∧Srt B w w' a:=by
 rcases Nat.eq_zero_or_pos es.length with h0 | h0
 ·have he:es=[]:=List.eq_nil_of_length_eq_zero h0
  subst he
  refine Calls.mono (AnyF.slices_SortFunc_none Tryz.sortOc a c _ w) ?_
  rintro e w' ⟨rfl,rfl⟩
  exact ⟨rfl,[],List.Perm.refl _,List.Pairwise.nil,h,hJ,Srt.refl _ _ _⟩
 ·rcases h.lies with ⟨_,hz,_⟩ | ⟨g,cur,rfl,_,_,hh⟩
  ·omega
  ·refine Calls.mono (sort_any w B _ c es h (fun e he p hp=>by rw [← Option.some.inj hp]; exact (hJ e he).off hh (by decide)) hB hl h0) ?_
   rintro e w' ⟨rfl,es',h1,h2,h3,h4⟩
   exact ⟨rfl,es',h1,h2,h3,fun e he=>(hJ e (h1.mem_iff.mp he)).srt hh h4,h4⟩
end
theorem compact_nil (w:World) :
  Calls Tryz.prog 102 #[nilV,.func (.func 64) #[] #[]] w fun e w'=>e=.returned nilV∧w'=w:=by
 go_enter Tryz.func102,Tryz.ntmps102
 go_wp2_with fail
 go_ret
 exact ⟨rfl,rfl⟩
theorem compactJ_any {w:World} {B:Nat} {a:Option Addr} {c:Nat} {es:List En} (h:IsO w B a es.length c es) (hJ:∀ e,e∈es→EnJ w B e) (hB:B≤w.heap.size) (hl:es.length≤100000) :
  Calls Tryz.prog 102 #[.slice a es.length c,.func (.func 64) #[] #[]] w fun e w'=>∃ k es',e=.returned (.slice a k c)∧IsO w' B a k c es'∧es'=compE es es.length∧(∀ e,e∈es'→EnJ w' B e)∧Srt B w w' a:=by
 rcases h.lies with ⟨rfl,hz,rfl⟩ | ⟨g,cur,rfl,hg,hc,hh⟩
 ·have he:es=[]:=List.eq_nil_of_length_eq_zero hz
  subst he
  refine Calls.mono (compact_nil w) ?_
  rintro e w' ⟨rfl,rfl⟩
  exact ⟨0,[],rfl,h,rfl,hJ,Srt.refl _ _ _⟩
 ·refine Calls.mono (compact_any w B g c es h (fun e he=>(hJ e he).off hh (by decide)) hB hg hl hc) ?_
  rintro e w' ⟨k,es',rfl,h1,h2,h3⟩
  exact ⟨k,es',rfl,h1,h2,fun e he=>(hJ e (by rw [h2] at he; exact compE_mem (Nat.le_refl _) he)).srt hh h3,h3⟩
end
section
open Go.RowKit Go.Sort Go.Shelf
theorem MemQ.up {Q:Cd} {w0 w W:World} {mb:Nat} {v:Rp→Value} {words:List Int} {lk:Nat} (h:MemQ Q w0 w mb v words lk) (hb:Below w.heap.size w W):MemQ Q w0 W mb v words lk :=
 ⟨fun r hr=>fam_keeps (h.own r hr) (fun g hg=>hb.block g (h.lt hg)),h.apart,h.st,h.thr,h.prints,h.regs,h.mem,h.box,h.below.trans (hb.mono h.below.size)⟩
structure KindOk (K:Mk) (tf cf:Nat):Prop where
 hM:MLaw K
 hT:MTell K tf
 hC:MClone K cf
 ty:∀ r,¬ wTy (pTy K r)
 oty:∀ r,pTy K r≠67∧pTy K r≠40
def OutQ (w:World) (L:Nat→Nat) (X:Nat→Nat→Nat→Int) (mode:Int) (s0:Sx) (e:Ending) (w':World):Prop :=
 ∃ (full:Bool) (a:Option Addr) (len cap:Nat) (es:List En),e=.returned (.tuple #[.slice a len cap,ints3 (if full then 10 else 0) 0 0])∧Told (nxX L X mode) (outsX L X mode) s0 4000 full (es.map En.o)∧IsO w' w.heap.size a len cap es∧(∀ x,x∈es→EnJ w' w.heap.size x)∧(full=true→len=0)∧len≤100000∧Below w.heap.size w w'
theorem Srt.box {B:Nat} {w w':World} {a:Option Addr} {n c k:Nat} {es:List En} {cs:Array Value} {t:TypeId} (h:Srt B w w' a) (hi:IsO w B a n c es) (hk:w.heap[k]? = some (.cells cs t (0,0))) (ht:67≠t):w'.heap[k]? = some (.cells cs t (0,0)) :=
 (h.kept k (box_lt hk) (fun p hp e=>own_type hi.own hk ht (by rw [hp]; exact congrArg some e))).trans hk
theorem out_told {c:Wc} {lb:Nat} {W:World} {K Z F:List Sx} {os:List Nat} {es es':List En} (h:WlI c (ObO c lb) W K Z [] F os) (hk:K.length≤4000) (he:∀ o,o∈es.map En.o↔outcX c.Q.L c.X c.mode Z F o) (hp:es'.Perm es) (hs:es'.Pairwise (fun x y=>aheadO y.o x.o=false)) :
  Told (nxX c.Q.L c.X c.mode) (outsX c.Q.L c.X c.mode) c.s0 4000 false ((compE es' es'.length).map En.o):=by
 obtain ⟨h1,h2⟩:=compE_all hs
 refine h.df.told h1 (fun o=>?_) hk
 rw [h2 o,(hp.map En.o).mem_iff]
 exact he o
theorem outcomes_any (w0 w:World) (Q:Cd) (tf cf:Nat) (ca:Option Addr) (n cc:Nat) (wa:Option Addr) (wc lk rg mb:Nat) (v0:Rp→Value) (words:List Int) (X:Nat→Nat→Nat→Int) (hK:KindOk Q.K tf cf) (hnt:Q.nt=n) (hn0:0 < n) (hc:COk n Q.L X words.length lk rg) (hfit:∀ t i,t < n→i < Q.L t→I64n (X t i 2)) (hwf:∀ x,x∈words→I64n x) (hp:PIn w ca n Q.A Q.L Q.C X) (htab:TabB w.heap.size w) (hmem:MemQ Q w0 w mb v0 words lk) :
  Calls Tryz.prog 61 #[prgV ca n cc wa words.length wc lk rg,.iface Q.K.tid (.pointer (some ⟨Q.top mb,0,none⟩))] w (OutQ w Q.L X Q.K.mode (beginX n words lk rg)):=by
 obtain ⟨W0,hW0⟩:∃ V,V=(w.alloc (.cells #[.slice ca n cc,.slice wa words.length wc,.int .i64 (lk:Int),.int .i64 (rg:Int)] 25)).alloc (.cells #[.int .i64 0,.int .i64 0,.int .i64 0] 30):=⟨_,rfl⟩
 have hz0:W0.heap.size=w.heap.size+1+1:=by rw [hW0]; simp
 have hb0:Below w.heap.size w W0:=by rw [hW0]; exact ((Below.refl _ _).alloc (Nat.le_refl _) _).alloc (by simp) _
 obtain ⟨W1,hW1⟩:∃ V,V=W0.alloc (.cells #[nilV] 40):=⟨_,rfl⟩
 have hb1:Below W0.heap.size W0 W1:=by rw [hW1]; exact (Below.refl _ _).alloc (Nat.le_refl _) _
 have hl1:W1.heap[W0.heap.size]? = some (.cells #[nilV] 40):=by rw [hW1]; exact heap_alloc_new _ _
 have hf0:W0.heap[w.heap.size+1]? = some (.cells #[.int .i64 0,.int .i64 0,.int .i64 0] 30):=by
  have:=heap_alloc_new (w.alloc (.cells #[.slice ca n cc,.slice wa words.length wc,.int .i64 (lk:Int),.int .i64 (rg:Int)] 25)) (.cells #[.int .i64 0,.int .i64 0,.int .i64 0] 30)
  rw [World.size_alloc] at this
  rw [hW0]; exact this
 have HWALK:Hid (∀ w2 sb v,Below W1.heap.size W1 w2→QSt w2 w0.heap.size Q sb mb v (beginX n words lk rg)→Calls Tryz.prog 20 #[.pointer (some ⟨sb,0,none⟩),.func (.func 96) #[] #[.pointer (some ⟨W0.heap.size,0,none⟩)],.func (.func 99) #[] #[.pointer (some ⟨W0.heap.size,0,none⟩)]] w2 fun e W'=>∃ ok:Bool,e=.returned (.bool ok)∧∃ a cp es,Hid (Below W0.heap.size W0 W'∧W'.heap[W0.heap.size]? = some (.cells #[.slice a es.length cp] 40)∧IsO W' W0.heap.size a es.length cp es∧(∀ x,x∈es→EnJ W' W0.heap.size x)∧es.length≤90000 ∧
   (ok=false→Told (nxX Q.L X Q.K.mode) (outsX Q.L X Q.K.mode) (beginX n words lk rg) 4000 true [])∧(ok=true→∀ es':List En,es'.Perm es→es'.Pairwise (fun x y=>aheadO y.o x.o=false)→Told (nxX Q.L X Q.K.mode) (outsX Q.L X Q.K.mode) (beginX n words lk rg) 4000 false ((compE es' es'.length).map En.o)))):=fun w2 sb v hb2 hq=>by
  have hs2:W1.heap.size≤w2.heap.size:=hb2.size
  have hs1:W1.heap.size=W0.heap.size+1:=by rw [hW1]; simp
  have hbw:Below W0.heap.size W0 w2:=hb1.trans (hb2.mono hb1.size)
  obtain ⟨c,hcd⟩:∃ c:Wc,c=⟨Q,ca,X,n,words.length,lk,rg,beginX n words lk rg,W0.heap.size,W0,tf,cf,w2.heap.size,w2.heap.size+1,w2.heap.size+1+1+1,w2.heap.size+1+1⟩:=⟨_,rfl⟩
  have hok:WcOk c:=by
   rw [hcd]
   exact ⟨hK.hM,hK.hT,hK.hC,hK.ty,hnt,hn0,hc,hfit,hp.below hb0,fun V hV=>htab V (hb0.trans (hV.mono hb0.size)),rfl,by show W0.heap.size≤w2.heap.size; omega,by show W0.heap.size≤w2.heap.size+1; omega,by show W0.heap.size≤w2.heap.size+1+1+1; omega,by show W0.heap.size≤w2.heap.size+1+1; omega⟩
  have hO:=obs_out c hok (by rw [hcd]; exact hK.oty) W0.heap.size
  have hs0:StP c 0 c.s0:=by
   rw [hcd]
   exact ⟨begin_ok,rfl,LkI.begin,VOk.begin hwf,by simp [beginX]⟩
  have hob:∀ V,Below w2.heap.size w2 V→w2.heap.size < V.heap.size→ObO c W0.heap.size V [] []:=fun V hbV hlt=>by
   have hl:V.heap[W0.heap.size]? = some (.cells #[nilV] 40):=by
    rw [hbV.block _ (by omega),hb2.block _ (by omega)]; exact hl1
   refine ⟨[],⟨⟨none,0,hl,IsO.nil _ _,fun p hp=>(by cases hp)⟩,fun e he=>(by cases he),?_,?_,?_⟩,fun o=>?_,Nat.le_refl _⟩
   ·rw [hcd]; exact hlt
   ·rw [hcd]; exact Nat.le_refl _
   ·rw [hcd]; show W0.heap.size≠w2.heap.size; omega
   ·constructor
    ·intro h; cases h
    ·rintro (⟨s,hs,_⟩ | ⟨s,hs,_⟩) <;> cases hs
  have hq':QSt w2 0 (c.Q.at Q.bb) sb mb v c.s0:=by rw [hcd]; exact hq.zero
  have h:=walk_any c hok (NO c.km) (ObO c W0.heap.size) _ _ _ _ hO w2 (by rw [hcd]) (by rw [hcd]) (by rw [hcd]) (by rw [hcd]) (by rw [hcd]; exact hbw) sb mb Q.bb v hq' hs0 hob
  refine Calls.mono h ?_
  rintro e W' ⟨K,Z,O,F,os,he,hwl,hO0⟩
  obtain ⟨es,h1,h2,h3⟩:=hwl.ob
  obtain ⟨a,cp,g1,g2,_⟩:=h1.box
  have hlen:=hwl.df.len
  have hkl:=hwl.kl
  have hfl:=hwl.fl
  have hlow:=hwl.wk.low
  have hJ:=h1.ok
  rw [show c.B=W0.heap.size by rw [hcd]] at g2 hlow hJ
  rw [show c.w0=W0 by rw [hcd]] at hlow
  refine ⟨decide (K.length≤4000),he,a,cp,es,hlow,g1,g2,hJ,by omega,fun hf=>?_,fun ht es' hp' hs'=>?_⟩
  ·have:=hwl.df.full (mx:=4000) [] (by have:=of_decide_eq_false hf; omega)
   rw [hcd] at this
   exact this
  ·have hk:=of_decide_eq_true ht
   rw [hO0 hk] at hwl
   have:=out_told hwl hk h2 hp' hs'
   rw [hcd] at this
   exact this
 have HBEG:Hid (Calls Tryz.prog 21 #[prgV ca n cc wa words.length wc lk rg,.iface Q.K.tid (.pointer (some ⟨Q.top mb,0,none⟩))] W1 fun e w'=>∃ sb v,e=.returned (.pointer (some ⟨sb,0,none⟩))∧QSt w' w0.heap.size Q sb mb v (beginX n words lk rg)∧Below W1.heap.size W1 w'):=by
  have hbV:Below w.heap.size w W1:=hb0.trans (hb1.mono hb0.size)
  refine Calls.mono (pbegin_any w0 W1 ca n cc wa wc lk rg mb v0 words Q X (hmem.up hbV) (hp.below hbV) hc.n4 hc.rg0 hc.rg2) ?_
  rintro e w' ⟨sb,v,he,_,h1,h2⟩
  exact ⟨sb,v,he,h1,h2⟩
 have HSORT:Hid (∀ W' a cp es,Below W0.heap.size W0 W'→IsO W' W0.heap.size a es.length cp es→(∀ x,x∈es→EnJ W' W0.heap.size x)→es.length≤90000→Calls Tryz.prog 100 #[.slice a es.length cp,.func (.func 101) #[] #[]] W' fun e w'=>e=.returned (.tuple #[])∧∃ es',Hid (es'.Perm es∧es'.Pairwise (fun x y=>aheadO y.o x.o=false)∧IsO w' W0.heap.size a es.length cp es'∧(∀ e,e∈es'→EnJ w' W0.heap.size e)∧Srt W0.heap.size W' w' a)):=fun W' a cp es h1 h2 h3 h4=>sortJ_any h2 h3 h1.size (by omega)
 have HW0:Hid ((w.alloc (.cells #[.slice ca n cc,.slice wa words.length wc,.int .i64 (lk:Int),.int .i64 (rg:Int)] 25)).alloc (.cells #[.int .i64 0,.int .i64 0,.int .i64 0] 30)=W0):=hW0.symm
 have HW1:Hid (W0.alloc (.cells #[nilV] 40)=W1):=hW1.symm
 have HB0:Hid (Below w.heap.size w W0∧W0.heap[w.heap.size+1]? = some (.cells #[.int .i64 0,.int .i64 0,.int .i64 0] 30)):=⟨hb0,hf0⟩
 obtain ⟨s0,hs0⟩:∃ s0,beginX n words lk rg=s0:=⟨_,rfl⟩
 rw [hs0] at HBEG HWALK ⊢
 obtain ⟨wl,hwl⟩:∃ k,words.length=k:=⟨_,rfl⟩
 rw [hwl] at HBEG HW0 ⊢
 clear hK hnt hn0 hc hfit hwf hp htab hmem hW1 hb1 hl1 hs0 hwl hW0 hb0 hf0
 go_enter Tryz.func61,Tryz.ntmps61
 go_wp2_with fail
 rw [HW0.out,HW1.out]
 refine Calls.mono HBEG.out ?_
 rintro e w2 ⟨sb,v,rfl,hq2,hb2⟩
 have HWK:=HWALK.out w2 sb v hb2 hq2
 rw [hz0] at HWK HSORT
 have HWK2:=hiD HWK
 clear HBEG HWALK hq2 hb2 HWK HW0 HW1
 go_wp2_with fail
 refine Calls.mono HWK2.out ?_
 rintro e w3 ⟨ok,rfl,a,cp,es,HE⟩
 clear HWK2
 have hb3:=HE.out.1
 have hf3:w3.heap[w.heap.size+1]? = some (.cells #[.int .i64 0,.int .i64 0,.int .i64 0] 30):=(hb3.block _ (by omega)).trans HB0.out.2
 have HF3:=hiD hf3
 have f0:w3.cell? ⟨w.heap.size+1,0,none⟩=some (.int .i64 0):=box_cell hf3 rfl
 have f1:w3.cell? ⟨w.heap.size+1,1,none⟩=some (.int .i64 0):=box_cell hf3 rfl
 have f2:w3.cell? ⟨w.heap.size+1,2,none⟩=some (.int .i64 0):=box_cell hf3 rfl
 have ff:∀ i,w3.frozen? ⟨w.heap.size+1,i,none⟩=false:=fun i=>box_free hf3
 clear hf3 hb3
 cases ok with
 | false =>
  have HT:Hid (Told (nxX Q.L X Q.K.mode) (outsX Q.L X Q.K.mode) s0 4000 true []∧Below w.heap.size w w3):=⟨HE.out.2.2.2.2.2.1 rfl,HB0.out.1.trans (HE.out.1.mono (by omega))⟩
  clear HE HSORT
  go_wp2_with fail
  refine bodyPost_ret (v:=.tuple #[nilV,ints3 10 0 0]) (by simp [results,Tryz.results61,go_sem,cell_set,f0,f1,f2]) rfl ⟨true,none,0,0,[],rfl,HT.out.1,IsO.nil _ _,fun x hx=>(by cases hx),fun _=>rfl,Nat.zero_le _,?_⟩
  exact ((HT.out.2.setCell (by show w.heap.size≤w.heap.size+1; omega) _).setCell (by show w.heap.size≤w.heap.size+1; omega) _).setCell (by show w.heap.size≤w.heap.size+1; omega) _
 | true =>
  have l3:w3.cell? ⟨w.heap.size+1+1,0,none⟩=some (.slice a es.length cp):=box_cell HE.out.2.1 rfl
  have HS:Hid (Calls Tryz.prog 100 #[.slice a es.length cp,.func (.func 101) #[] #[]] w3 fun e w'=>e=.returned (.tuple #[])∧∃ es',Hid (es'.Perm es∧es'.Pairwise (fun x y=>aheadO y.o x.o=false)∧IsO w' (w.heap.size+1+1) a es.length cp es'∧(∀ e,e∈es'→EnJ w' (w.heap.size+1+1) e)∧Srt (w.heap.size+1+1) w3 w' a)):=HSORT.out w3 a cp es HE.out.1 HE.out.2.2.1 HE.out.2.2.2.1 HE.out.2.2.2.2.1
  have hel:=HE.out.2.2.2.2.1
  obtain ⟨n3,hn3⟩:∃ k,es.length=k:=⟨_,rfl⟩
  have HN3:Hid (es.length=n3):=hn3
  rw [hn3] at l3 HS hel
  clear HSORT hn3
  go_wp2_with fail
  refine Calls.mono HS.out ?_
  rintro e w4 ⟨rfl,es4,H4⟩
  have hf4:=H4.out.2.2.2.2.box HE.out.2.2.1 HF3.out (by decide)
  have hl4:=H4.out.2.2.2.2.box HE.out.2.2.1 HE.out.2.1 (by decide)
  rw [HN3.out] at hl4
  have l4:w4.cell? ⟨w.heap.size+1+1,0,none⟩=some (.slice a n3 cp):=box_cell hl4 rfl
  have hlen4:es4.length=n3:=H4.out.2.2.1.is
  have hb4:Below (w.heap.size+1+1) W0 w4:=HE.out.1.trans H4.out.2.2.2.2.below
  have HFIN:Hid (Calls Tryz.prog 102 #[.slice a n3 cp,.func (.func 64) #[] #[]] w4 fun e w'=>∃ k es',e=.returned (.slice a k cp)∧w'.heap[w.heap.size+1]? = some (.cells #[.int .i64 0,.int .i64 0,.int .i64 0] 30)∧Hid (∀ x y z,OutQ w Q.L X Q.K.mode s0 (.returned (.tuple #[.slice a k cp,ints3 0 0 0])) (((w'.setCell ⟨w.heap.size+1,0,none⟩ x).setCell ⟨w.heap.size+1,1,none⟩ y).setCell ⟨w.heap.size+1,2,none⟩ z)∧es'=es4)):=by
   have h:=compactJ_any (es:=es4) (c:=cp) (a:=a) (w:=w4) (B:=w.heap.size+1+1) (by rw [hlen4]; exact H4.out.2.2.1) H4.out.2.2.2.1 (by have:=hb4.size; omega) (by omega)
   rw [hlen4] at h
   refine Calls.mono h ?_
   rintro e w5 ⟨k,es5,rfl,h1,h2,h3,h4⟩
   have hI4:=H4.out.2.2.1
   have hf5:=h4.box hI4 hf4 (by decide)
   refine ⟨k,es4,rfl,hf5,fun x y z=>⟨?_,rfl⟩⟩
   have hk5:∀ j,j≠w.heap.size+1→(((w5.setCell ⟨w.heap.size+1,0,none⟩ x).setCell ⟨w.heap.size+1,1,none⟩ y).setCell ⟨w.heap.size+1,2,none⟩ z).heap[j]? = w5.heap[j]? := fun j hj=>by
    rw [Below.heap_setCell _ _ _ _ hj,Below.heap_setCell _ _ _ _ hj,Below.heap_setCell _ _ _ _ hj]
   have hbw:Below w.heap.size w w5:=HB0.out.1.trans ((hb4.trans h4.below).mono (by omega))
   have hfl:∀ {e:TypeId} {size:Nat} {v:Value} {n:Nat} {xs:List Value},w5.ownsRow (w.heap.size+1+1) e size v n xs→(((w5.setCell ⟨w.heap.size+1,0,none⟩ x).setCell ⟨w.heap.size+1,1,none⟩ y).setCell ⟨w.heap.size+1,2,none⟩ z).ownsRow w.heap.size e size v n xs:=fun hr=>own_low (fam_keeps hr (fun g hg=>hk5 g (by have:=(hr.lt g hg).1; omega))) (by omega)
   refine ⟨false,a,k,cp,es5,rfl,?_,⟨h1.is,hfl h1.own⟩,fun x hx=>⟨hfl (h3 x hx).ws,hfl (h3 x hx).pr,(h3 x hx).wl,(h3 x hx).pl⟩,fun h=>(by cases h),?_,?_⟩
   ·rw [h2,← hlen4]
    exact HE.out.2.2.2.2.2.2 (by trivial) es4 H4.out.1 H4.out.2.1
   ·have:=h1.is
    rw [h2] at this
    have h6:(compE es4 n3).length≤n3:=compE_len
    omega
   ·exact ((hbw.setCell (by show w.heap.size≤w.heap.size+1; omega) _).setCell (by show w.heap.size≤w.heap.size+1; omega) _).setCell (by show w.heap.size≤w.heap.size+1; omega) _
  clear HS H4 HE l3 f0 f1 f2 ff hf4 hl4 hlen4 hb4
  go_wp2_with fail
  refine Calls.mono HFIN.out ?_
  rintro e w5 ⟨k,es5,rfl,hf5,H5⟩
  have f0:w5.cell? ⟨w.heap.size+1,0,none⟩=some (.int .i64 0):=box_cell hf5 rfl
  have f1:w5.cell? ⟨w.heap.size+1,1,none⟩=some (.int .i64 0):=box_cell hf5 rfl
  have f2:w5.cell? ⟨w.heap.size+1,2,none⟩=some (.int .i64 0):=box_cell hf5 rfl
  have ff:∀ i,w5.frozen? ⟨w.heap.size+1,i,none⟩=false:=fun i=>box_free hf5
  clear HFIN hf5 l4
  go_wp2_with fail
  refine bodyPost_ret (v:=.tuple #[.slice a k cp,ints3 0 0 0]) (by simp [results,Tryz.results61,go_sem,cell_set,f0,f1,f2]) rfl ?_
  exact (H5.out _ _ _).1
end
end Go.Proofs.YtelckcpjmekgcacGreatDoor
