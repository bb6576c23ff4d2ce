import Derived.Test.YtelckcpjmekgcacGreatDoorOcSee
import Derived.Test.YtelckcpjmekgcacGreatDoorZBy2
namespace Go.Proofs.YtelckcpjmekgcacGreatDoor
set_option maxHeartbeats 3200000
set_option maxRecDepth 100000
section
open Go.RowKit
theorem made_nils (n:Nat):madeCells #[nilV] n=(List.replicate n nilV).toArray:=by
 apply Array.ext'
 simp [madeCells]
 apply List.ext_getElem?
 intro i
 simp only [List.getElem?_map,List.getElem?_replicate]
 by_cases h:i < n
 ·simp [h,Nat.mod_one]
 ·simp [h]
theorem nils_row {w:World} {B g k:Nat} {ty:TypeId} (hB:B≤g) (hk:k≤1000) (h:w.heap[g]? = some (.cells (madeCells #[nilV] k) ty (0,0))):w.ownsRow B ty 1 (.slice (some ⟨g,0,none⟩) k k) k (List.replicate k nilV):=by
 rw [made_nils] at h
 refine ⟨by simp,Or.inr ⟨g,k,_,rfl,hB,h,Nat.le_refl _,by unfold maxLen; omega,by simp,?_⟩⟩
 rw [List.take_of_length_le (by simp)]
theorem Mem0.low {w W0 w3 W:World} {mb lk:Nat} {wv ov:Value} {words:List Int} (h:Mem0 W0 w3 mb wv ov words lk) (h0:Below w.heap.size w W0) (h3:Below w3.heap.size w3 W):Mem0 w W mb wv ov words lk:=by
 have hl:mb < w3.heap.size:=by
  rcases Nat.lt_or_ge mb w3.heap.size with h1 | h1
  ·exact h1
  ·have:=h.box; rw [Array.getElem?_eq_none h1] at this; cases this
 exact ⟨(h3.block _ hl).trans h.box,fam_keeps (own_low h.wrow h0.size) (fun g e=>h3.block g (h.wrow.lt g e).2),fam_keeps (own_low h.orow h0.size) (fun g e=>h3.block g (h.orow.lt g e).2),Nat.le_trans h0.size h.lo,h.a1,h.a2,h.a3,(h0.trans (h.below.mono h0.size)).trans (h3.mono (Nat.le_trans h0.size h.below.size))⟩
def b0V (mb bb g n:Nat) (wv ov:Value):Rp→Value
 | .mem=>boxV mb
 | .words=>wv
 | .own=>ov
 | .box=>boxV bb
 | .bufs=>.slice (some ⟨g,0,none⟩) n n
 | _=>nilV
theorem Mem0.b {w W:World} {mb lk g n:Nat} {wv ov:Value} {words:List Int} (h:Mem0 w W mb wv ov words lk) (hn:n≤4) (hg:W.heap[g]? = some (.cells (madeCells #[nilV] n) 263 (0,0))) (hgl:w.heap.size≤g) (A:Nat→Option Addr) (L C:Nat→Nat) :
  MemQ ⟨A,L,C,bufK,W.heap.size,n⟩ w (W.alloc (.cells #[.pointer (some ⟨mb,0,none⟩),.slice (some ⟨g,0,none⟩) n n] 184)) mb (b0V mb W.heap.size g n wv ov) words lk:=by
 have lt:∀ k o,W.heap[k]? = some o→k < W.heap.size:=fun k o hk=>by
  rcases Nat.lt_or_ge k W.heap.size with h1 | h1
  ·exact h1
  ·rw [Array.getElem?_eq_none h1] at hk; cases hk
 have lm:=lt _ _ h.box
 have lg:=lt _ _ hg
 have c1:g≠mb:=fun e=>by rw [e,h.box] at hg; simp at hg
 have c2:=own_type h.wrow hg (by decide)
 have c3:=own_type h.orow hg (by decide)
 have c4:wv.ownBlock≠some W.heap.size:=fun e=>absurd (h.wrow.lt _ e).2 (by omega)
 have c5:ov.ownBlock≠some W.heap.size:=fun e=>absurd (h.orow.lt _ e).2 (by omega)
 refine ⟨fun r hr=>?_,fun r q k hr hq=>?_,rfl,rfl,rfl,fun _=>rfl,rfl,fun _=>rfl,h.below.alloc h.below.size _⟩
 ·cases r with
  | st=>exact absurd rfl hr
  | mem=>exact (fam_box (xs:=[wv,ov]) h.lo h.box).alloc _
  | words=>exact h.wrow.alloc _
  | own =>
   show World.ownsRow _ _ _ 1 ov (List.replicate lk (-1:Int)).length _
   rw [List.length_replicate]
   exact h.orow.alloc _
  | thr=>exact World.ownsRow_nil _ _ _ _
  | prints=>exact World.ownsRow_nil _ _ _ _
  | regs t=>exact World.ownsRow_nil _ _ _ _
  | box=>exact fam_box (xs:=[.pointer (some ⟨mb,0,none⟩),.slice (some ⟨g,0,none⟩) n n]) h.below.size (heap_alloc_new _ _)
  | bufs =>
   have e:pX ⟨A,L,C,bufK,W.heap.size,n⟩ mb (b0V mb W.heap.size g n wv ov) (sB words lk) .bufs=List.replicate n nilV:=by
    show (List.range n).map (fun _=>nilV)=_
    exact List.eq_replicate_iff.2 ⟨by rw [List.length_map,List.length_range],fun b hb=>by obtain ⟨_,_,e⟩:=List.mem_map.1 hb; exact e.symm⟩
   rw [e]
   exact (nils_row hgl (by omega) hg).alloc _
  | buf t=>exact World.ownsRow_nil _ _ _ _
 ·have s1:∀ b k,(boxV b).ownBlock=some k→k=b:=fun b k e=>by simpa [Value.ownBlock] using e.symm
  have s2:∀ b k,(Value.slice (some ⟨b,0,none⟩) n n).ownBlock=some k→k=b:=fun b k e=>by simpa [Value.ownBlock] using e.symm
  have s3:∀ k,(nilV).ownBlock=some k→False:=fun k e=>by simp [Value.ownBlock] at e
  have a1:=h.a1
  have a2:=h.a2
  have a3:=h.a3
  have key:∀ r k,(b0V mb W.heap.size g n wv ov r).ownBlock=some k→(r=.mem∧k=mb)∨(r=.words∧wv.ownBlock=some k)∨(r=.own∧ov.ownBlock=some k)∨(r=.box∧k=W.heap.size)∨(r=.bufs∧k=g):=fun r k e=>by
   cases r with
   | mem=>exact .inl ⟨rfl,s1 _ _ e⟩
   | words=>exact .inr (.inl ⟨rfl,e⟩)
   | own=>exact .inr (.inr (.inl ⟨rfl,e⟩))
   | box=>exact .inr (.inr (.inr (.inl ⟨rfl,s1 _ _ e⟩)))
   | bufs=>exact .inr (.inr (.inr (.inr ⟨rfl,s2 _ _ e⟩)))
   | st=>exact (s3 _ e).elim
   | thr=>exact (s3 _ e).elim
   | prints=>exact (s3 _ e).elim
   | regs t=>exact (s3 _ e).elim
   | buf t=>exact (s3 _ e).elim
  rcases key r k hr with ⟨rfl,e1⟩ | ⟨rfl,e1⟩ | ⟨rfl,e1⟩ | ⟨rfl,e1⟩ | ⟨rfl,e1⟩ <;> rcases key q k hq with ⟨rfl,e2⟩ | ⟨rfl,e2⟩ | ⟨rfl,e2⟩ | ⟨rfl,e2⟩ | ⟨rfl,e2⟩ <;> first | rfl | (exfalso; omega) | (exfalso; subst e1; exact absurd e2 (by assumption)) | (exfalso; subst e2; exact absurd e1 (by assumption)) | (exact absurd e2 (a3 _ e1)) | (exact absurd e1 (a3 _ e2))
theorem newBuffered_any (w:World) (ca:Option Addr) (n cc:Nat) (wa:Option Addr) (wc lk rg:Nat) (words:List Int) (hw:SIs w wa words) (hnil:wa=none→words=[]∧wc=0) (hm:words.length≤64) (hlk:lk≤4) (hn:n≤4) :
  Calls Tryz.prog 62 #[prgV ca n cc wa words.length wc lk rg] w fun e w'=>∃ bb mb v,e=.returned (.pointer (some ⟨bb,0,none⟩))∧∀ A L C,MemQ ⟨A,L,C,bufK,bb,n⟩ w w' mb v words lk:=by
 have HNEW:Hid (∀ W,Below w.heap.size w W→Calls Tryz.prog 22 #[prgV ca n cc wa words.length wc lk rg] W fun e w'=>∃ mb wv ov,e=.returned (.pointer (some ⟨mb,0,none⟩))∧Mem0 W w' mb wv ov words lk):=fun W hb=>newPlain_any W ca n cc wa wc lk rg words (hw.below hb) hnil hm hlk
 have hmk:=fun W=>run_make_row' (P:=Tryz.prog) 182 263 nilV 24 Tryz.underlying182 (by kernel_rfl) rfl .i64 .i64 n (by omega) (by omega) W
 obtain ⟨m,hmm⟩:∃ m,words.length=m:=⟨_,rfl⟩
 rw [hmm] at HNEW ⊢
 clear hw hnil hm hmm
 have HN4:Hid (n≤4):=hn
 clear hn hlk
 go_enter Tryz.func62,Tryz.ntmps62
 go_wp2
 have q0:(w.alloc (.cells #[.slice ca n cc,.slice wa m wc,.int .i64 (lk:Int),.int .i64 (rg:Int)] 25)).cell? ⟨w.heap.size,0,none⟩=some (.slice ca n cc):=by go_simp
 have q1:(w.alloc (.cells #[.slice ca n cc,.slice wa m wc,.int .i64 (lk:Int),.int .i64 (rg:Int)] 25)).cell? ⟨w.heap.size,1,none⟩=some (.slice wa m wc):=by go_simp
 have q2:(w.alloc (.cells #[.slice ca n cc,.slice wa m wc,.int .i64 (lk:Int),.int .i64 (rg:Int)] 25)).cell? ⟨w.heap.size,2,none⟩=some (.int .i64 (lk:Int)):=by go_simp
 have q3:(w.alloc (.cells #[.slice ca n cc,.slice wa m wc,.int .i64 (lk:Int),.int .i64 (rg:Int)] 25)).cell? ⟨w.heap.size,3,none⟩=some (.int .i64 (rg:Int)):=by go_simp
 have HB1:Hid (Below w.heap.size w (w.alloc (.cells #[.slice ca n cc,.slice wa m wc,.int .i64 (lk:Int),.int .i64 (rg:Int)] 25))):=(Below.refl _ _).alloc (Nat.le_refl _) _
 have hs1:(w.alloc (.cells #[.slice ca n cc,.slice wa m wc,.int .i64 (lk:Int),.int .i64 (rg:Int)] 25)).heap.size=w.heap.size+1:=by simp
 obtain ⟨W1,hW1⟩:∃ W1,w.alloc (.cells #[.slice ca n cc,.slice wa m wc,.int .i64 (lk:Int),.int .i64 (rg:Int)] 25)=W1:=⟨_,rfl⟩
 rw [hW1] at q0 q1 q2 q3 HB1 hs1 ⊢
 clear hW1
 go_region_held3 (fun w'=>w'.cell? ⟨w.heap.size,0,none⟩=some (.slice ca n cc)∧w'.cell? ⟨w.heap.size,1,none⟩=some (.slice wa m wc)∧w'.cell? ⟨w.heap.size,2,none⟩=some (.int .i64 (lk:Int))∧w'.cell? ⟨w.heap.size,3,none⟩=some (.int .i64 (rg:Int))) (refine ⟨?_,?_,?_,?_⟩ <;> (repeat (first | with_reducible assumption | with_reducible refine cell_drw ?_ | with_reducible refine cell_up ?_ _))) ((go_at_call 22; refine Calls.mono (HNEW.out _ (by repeat (first | exact HB1.out | refine Below.drew ?_ | refine Below.alloc ?_ (by have:=HB1.out.size; simp; omega) _))) ?_; rintro e w3 ⟨mb,wv,ov,rfl,hm⟩; have z0:w3.cell? ⟨w.heap.size,0,none⟩=some (.slice ca n cc):=(hm.below.cell (p:=⟨w.heap.size,0,none⟩) (by show w.heap.size < _; simp; omega)).trans (by repeat (first | exact q0 | refine cell_drw ?_ | refine cell_up ?_ _)); have z1:w3.cell? ⟨w.heap.size,1,none⟩=some (.slice wa m wc):=(hm.below.cell (p:=⟨w.heap.size,1,none⟩) (by show w.heap.size < _; simp; omega)).trans (by repeat (first | exact q1 | refine cell_drw ?_ | refine cell_up ?_ _)); have z2:w3.cell? ⟨w.heap.size,2,none⟩=some (.int .i64 (lk:Int)):=(hm.below.cell (p:=⟨w.heap.size,2,none⟩) (by show w.heap.size < _; simp; omega)).trans (by repeat (first | exact q2 | refine cell_drw ?_ | refine cell_up ?_ _)); have z3:w3.cell? ⟨w.heap.size,3,none⟩=some (.int .i64 (rg:Int)):=(hm.below.cell (p:=⟨w.heap.size,3,none⟩) (by show w.heap.size < _; simp; omega)).trans (by repeat (first | exact q3 | refine cell_drw ?_ | refine cell_up ?_ _)); have HM:=hiD hm; clear hm))
 all_goals go_wp2
 all_goals go_ret
 ·refine ⟨w3.heap.size+1,mb,b0V mb (w3.heap.size+1) w3.heap.size n wv ov,rfl,fun A L C=>?_⟩
  have h:=(HM.out.low HB1.out.drew ((Below.refl _ _).alloc (Nat.le_refl _) (.cells (madeCells #[nilV] n) 263))).b HN4.out (heap_alloc_new _ _) (Nat.le_trans HB1.out.drew.size HM.out.below.size) A L C
  rw [World.size_alloc] at h
  exact h
 ·refine ⟨w3.heap.size,mb,b0V mb w3.heap.size (w.heap.size+1) n wv ov,rfl,fun A L C=>?_⟩
  have hg:(W1.alloc (.cells (madeCells #[nilV] n) 263)).heap[w.heap.size+1]? = some (.cells (madeCells #[nilV] n) 263 (0,0)):=by
   have:=heap_alloc_new W1 (.cells (madeCells #[nilV] n) 263)
   rwa [hs1] at this
  exact (HM.out.low (HB1.out.alloc HB1.out.size _).drew (Below.refl _ _)).b HN4.out ((HM.out.below.block _ (by simp [hs1])).trans hg) (Nat.le_succ _) A L C
end
section
open Go.RowKit Go.Sort Go.Shelf
theorem plain_kind:KindOk plainK 186 179 where
 hM:=plain_law
 hT:=plain_tell
 hC:=plain_clone
 ty r:=by cases r <;> simp [wTy,pTy,plainK]
 oty r:=by cases r <;> simp [pTy,plainK]
theorem buf_kind:KindOk bufK 197 193 where
 hM:=buf_law
 hT:=buf_tell
 hC:=buf_clone
 ty r:=by cases r <;> simp [wTy,pTy,bufK]
 oty r:=by cases r <;> simp [pTy,bufK]
def SpcQ (w:World) (L:Nat→Nat) (X:Nat→Nat→Nat→Int) (mode:Int) (s0:Sx) (e:Ending) (w':World):Prop :=
 ∃ (full:Bool) (a:Option Addr) (len cap:Nat) (es:List En),e=.returned (.tuple #[.slice a len cap,ints3 (if full then 10 else 0) 0 0])∧Told (nxX L X mode) (outsX L X mode) s0 4000 full (es.map En.o)∧es.length=len∧EIn w' a es∧(∀ x,x∈es→EnOk w' x)∧(full=true→len=0)∧len≤100000∧Below w.heap.size w w'
theorem IsO.ein {w:World} {B:Nat} {a:Option Addr} {n c:Nat} {es:List En} (h:IsO w B a n c es):EIn w a es:=fun i hi=>by
 rcases h.lies with ⟨_,hz,_⟩ | ⟨g,cur,rfl,_⟩
 ·have:=h.is; omega
 ·obtain ⟨h1,h2,h3⟩:=h.cells (k:=i) (by rw [← h.is]; exact hi)
  exact ⟨g,0,rfl,by rw [Nat.zero_add]; exact h1,by rw [Nat.zero_add]; exact h2,by rw [Nat.zero_add]; exact h3⟩
theorem OutQ.spc {w W w':World} {L:Nat→Nat} {X:Nat→Nat→Nat→Int} {mode:Int} {s0:Sx} {e:Ending} (h:OutQ W L X mode s0 e w') (hb:Below w.heap.size w W):SpcQ w L X mode s0 e w':=by
 obtain ⟨full,a,len,cap,es,h1,h2,h3,h4,h5,h6,h7⟩:=h
 exact ⟨full,a,len,cap,es,h1,h2,h3.is,h3.ein,fun x hx=>(h4 x hx).ok,h5,h6,hb.trans (h7.mono hb.size)⟩
theorem TabB.up {w W:World} (h:TabB w.heap.size w) (hb:Below w.heap.size w W):TabB W.heap.size W:=fun w' h'=>h w' (hb.trans (h'.mono hb.size))
theorem OutQ.form {w w':World} {L:Nat→Nat} {X:Nat→Nat→Nat→Int} {mode:Int} {s0:Sx} {e:Ending} (h:OutQ w L X mode s0 e w'):(∃ (a:Option Addr) (l c:Nat) (z:Int),e=.returned (.tuple #[.slice a l c,ints3 z 0 0]))∧Below w.heap.size w w':=by
 obtain ⟨full,a,len,cap,es,h1,_,_,_,_,_,h7⟩:=h
 exact ⟨⟨a,len,cap,_,h1⟩,h7⟩
theorem OutQ.move {w W w4 w':World} {L:Nat→Nat} {X:Nat→Nat→Nat→Int} {mode:Int} {s0:Sx} {e:Ending} (h:OutQ W L X mode s0 e w4) (hW:w.heap.size≤W.heap.size) (hk:∀ j,W.heap.size≤j→w'.heap[j]? = w4.heap[j]?) (hb:Below w.heap.size w w'):OutQ w L X mode s0 e w':=by
 obtain ⟨full,a,len,cap,es,h1,h2,h3,h4,h5,h6,h7⟩:=h
 have hr:∀ {e:TypeId} {size:Nat} {v:Value} {n:Nat} {xs:List Value},w4.ownsRow W.heap.size e size v n xs→w'.ownsRow w.heap.size e size v n xs:=fun hr=>own_low (fam_keeps hr (fun g hg=>hk g (hr.lt g hg).1)) hW
 exact ⟨full,a,len,cap,es,h1,h2,⟨h3.is,hr h3.own⟩,fun x hx=>⟨hr (h4 x hx).ws,hr (h4 x hx).pr,(h4 x hx).wl,(h4 x hx).pl⟩,h5,h6,hb⟩
theorem sc_yes (w:World) (ca:Option Addr) (n cc:Nat) (wa:Option Addr) (wc lk rg:Nat) (words:List Int) (A:Nat→Option Addr) (L C:Nat→Nat) (X:Nat→Nat→Nat→Int) (HR:Hid (chk n L X words.length lk rg=(0,0,0))) (hp:PIn w ca n A L C X) (hc:COk n L X words.length lk rg) (hn0:0 < n) (hw:SIs w wa words) (hnil:wa=none→words=[]∧wc=0) (hfit:∀ t i,t < n→i < L t→I64n (X t i 2)) (hwf:∀ x,x∈words→I64n x) (htab:TabB w.heap.size w) :
  Calls Tryz.prog 26 #[prgV ca n cc wa words.length wc lk rg] w (OutQ w L X 0 (beginX n words lk rg)):=by
 have HCHK:Hid (∀ W,Below w.heap.size w W→Calls Tryz.prog 15 #[prgV ca n cc wa words.length wc lk rg] W fun e w'=>e=.returned (ints3 0 0 0)∧Below W.heap.size W w'):=fun W hb=>check_any ca n cc wa words.length wc lk rg A L C X 0 0 0 HR W (hp.below hb)
 have HNEW:Hid (∀ W,Below w.heap.size w W→Calls Tryz.prog 22 #[prgV ca n cc wa words.length wc lk rg] W fun e w'=>∃ mb wv ov,e=.returned (.pointer (some ⟨mb,0,none⟩))∧Mem0 W w' mb wv ov words lk):=fun W hb=>newPlain_any W ca n cc wa wc lk rg words (hw.below hb) hnil hc.m64 hc.lk4
 have HOUT:Hid (∀ W w' mb wv ov,Below w.heap.size w W→Mem0 W w' mb wv ov words lk→Calls Tryz.prog 61 #[prgV ca n cc wa words.length wc lk rg,.iface 61 (.pointer (some ⟨mb,0,none⟩))] w' (OutQ w' L X 0 (beginX n words lk rg))):=fun W w' mb wv ov hb hm=>by
  have hb2:Below w.heap.size w w':=hb.trans (hm.below.mono hb.size)
  exact outcomes_any W w' ⟨A,L,C,plainK,0,n⟩ _ _ ca n cc wa wc lk rg mb (m0V mb wv ov) words X plain_kind rfl hn0 hc hfit hwf (hp.below hb2) (htab.up hb2) (hm.q rfl)
 obtain ⟨s0,hs0⟩:∃ s0,beginX n words lk rg=s0:=⟨_,rfl⟩
 rw [hs0] at HOUT ⊢
 obtain ⟨wl,hwl⟩:∃ k,words.length=k:=⟨_,rfl⟩
 rw [hwl] at HCHK HNEW HOUT ⊢
 clear HR hp hc hn0 hw hnil hfit hwf htab hs0 hwl
 obtain ⟨PB,hPB⟩:∃ o:Obj,o=.cells #[.slice ca n cc,.slice wa wl wc,.int .i64 (lk:Int),.int .i64 (rg:Int)] 25:=⟨_,rfl⟩
 obtain ⟨W0,hW0⟩:∃ V,V=(w.alloc PB).alloc (.cells #[.int .i64 0,.int .i64 0,.int .i64 0] 30):=⟨_,rfl⟩
 have hz0:W0.heap.size=w.heap.size+1+1:=by rw [hW0]; simp
 have hb0:Below w.heap.size w W0:=by rw [hW0]; exact ((Below.refl _ _).alloc (Nat.le_refl _) _).alloc (by simp) _
 have hp0:W0.heap[w.heap.size]? = some PB:=by rw [hW0]; exact box_later (heap_alloc_new _ _) _
 have hf0:W0.heap[w.heap.size+1]? = some (.cells #[.int .i64 0,.int .i64 0,.int .i64 0] 30):=by
  have:=heap_alloc_new (w.alloc PB) (.cells #[.int .i64 0,.int .i64 0,.int .i64 0] 30)
  rw [World.size_alloc] at this
  rw [hW0]; exact this
 have HW0:Hid ((w.alloc (.cells #[.slice ca n cc,.slice wa wl wc,.int .i64 (lk:Int),.int .i64 (rg:Int)] 25)).alloc (.cells #[.int .i64 0,.int .i64 0,.int .i64 0] 30)=W0):=by rw [hW0,hPB]; exact rfl
 have HAT:Hid (∀ V,Below W0.heap.size W0 V→(V.cell? ⟨w.heap.size,0,none⟩=some (.slice ca n cc)∧V.cell? ⟨w.heap.size,1,none⟩=some (.slice wa wl wc)∧V.cell? ⟨w.heap.size,2,none⟩=some (.int .i64 (lk:Int))∧V.cell? ⟨w.heap.size,3,none⟩=some (.int .i64 (rg:Int)))∧(V.cell? ⟨w.heap.size+1,0,none⟩=some (.int .i64 0)∧V.cell? ⟨w.heap.size+1,1,none⟩=some (.int .i64 0)∧V.cell? ⟨w.heap.size+1,2,none⟩=some (.int .i64 0))∧∀ i,V.frozen? ⟨w.heap.size+1,i,none⟩=false):=fun V hb=>by
  have e1:=(hb.block w.heap.size (by omega)).trans hp0
  have e2:=(hb.block (w.heap.size+1) (by omega)).trans hf0
  rw [hPB] at e1
  exact ⟨⟨box_cell e1 rfl,box_cell e1 rfl,box_cell e1 rfl,box_cell e1 rfl⟩,⟨box_cell e2 rfl,box_cell e2 rfl,box_cell e2 rfl⟩,fun i=>box_free e2⟩
 have HFIN:Hid (∀ V w3 e w4 x y z,Below W0.heap.size W0 V→Below V.heap.size V w3→OutQ w3 L X 0 s0 e w4→OutQ w L X 0 s0 e (((w4.setCell ⟨w.heap.size+1,0,none⟩ x).setCell ⟨w.heap.size+1,1,none⟩ y).setCell ⟨w.heap.size+1,2,none⟩ z)):=fun V w3 e w4 x y z h1 h2 h3=>by
  have hb3:Below W0.heap.size W0 w3:=h1.trans (h2.mono h1.size)
  have hsz:=hb3.size
  have hb4:Below w3.heap.size w3 w4:=h3.form.2
  have hbw:Below w.heap.size w w4:=hb0.trans ((hb3.trans (hb4.mono hsz)).mono hb0.size)
  refine h3.move (by omega) (fun j hj=>?_) (((hbw.setCell (by show w.heap.size≤w.heap.size+1; omega) _).setCell (by show w.heap.size≤w.heap.size+1; omega) _).setCell (by show w.heap.size≤w.heap.size+1; omega) _)
  have hne:j≠w.heap.size+1:=by omega
  rw [Below.heap_setCell _ _ _ _ hne,Below.heap_setCell _ _ _ _ hne,Below.heap_setCell _ _ _ _ hne]
 have HB0:=hiD hb0
 clear hPB hW0 hp0 hf0 hb0
 go_enter Tryz.func26,Tryz.ntmps26
 go_wp2_with fail
 rw [HW0.out]
 refine Calls.mono (HCHK.out _ HB0.out) ?_
 rintro e w1 ⟨rfl,hb1⟩
 obtain ⟨⟨p0,p1,p2,p3⟩,⟨f0,f1,f2⟩,ff⟩:=HAT.out w1 hb1
 have HB1:=hiD hb1
 clear HCHK HW0 hb1
 go_wp2_with fail
 obtain ⟨V,hV⟩:∃ V,w1.alloc (.cells #[.int .i64 0,.int .i64 0,.int .i64 0] 30)=V:=⟨_,rfl⟩
 rw [hV]
 have hbV:Below W0.heap.size W0 V:=by rw [← hV]; exact HB1.out.alloc HB1.out.size _
 have HBV:=hiD hbV
 have HWV:Hid (Below w.heap.size w V):=HB0.out.trans (hbV.mono HB0.out.size)
 clear p0 p1 p2 p3 f0 f1 f2 ff HB1 hV
 obtain ⟨⟨p0,p1,p2,p3⟩,_,_⟩:=HAT.out V hbV
 clear hbV
 go_region_with (first | (go_at_call 22; refine Calls.mono (HNEW.out _ HWV.out.drew) ?_; rintro e w3 ⟨mb,wv,ov,rfl,hm⟩; have hb3:Below W0.heap.size W0 w3:=HBV.out.drew.trans (hm.below.mono HBV.out.size); obtain ⟨⟨q0,q1,q2,q3⟩,_,_⟩:=HAT.out w3 hb3; have HB3:=hiD hb3; have HM:=hiD hm; clear hm hb3) | (go_at_call 61; refine Calls.mono (HOUT.out _ w3 mb wv ov HWV.out.drew HM.out) ?_; intro e w4 h4; have hfin:=fun x y z=>HFIN.out _ _ e w4 x y z HBV.out.drew HM.out.below h4; have HQ:=hiD hfin; clear hfin; obtain ⟨⟨a4,l4,c4,z4,rfl⟩,hb4⟩:=h4.form; clear h4; obtain ⟨_,⟨f0,f1,f2⟩,ff⟩:=HAT.out w4 (HB3.out.trans (hb4.mono HB3.out.size)); clear hb4))
 all_goals go_wp2_with fail
 all_goals exact bodyPost_ret (v:=.tuple #[.slice a4 l4 c4,ints3 z4 0 0]) (by simp [results,Tryz.results26,go_sem,cell_set,f0,f1,f2]) rfl (HQ.out _ _ _)
end
section
open Go.RowKit Go.Sort Go.Shelf
theorem take_eq_next {x y:List Oc} {k:Nat} (h:x.take k=y.take k) (h1:k < x.length) (h2:k < y.length) (e:x.getD k default=y.getD k default):x.take (k+1)=y.take (k+1):=otake_ext h h1 h2 e
theorem equal_any (w:World) (a b:Option Addr) (es fs:List En) (c d:Nat) (hE:EIn w a es) (hF:EIn w b fs) (hok:∀ x,x∈es→EnOk w x) (hok':∀ x,x∈fs→EnOk w x) (hn:es.length≤100000) (_hm:fs.length≤100000) :
  Calls Tryz.prog 63 #[.slice a es.length c,.slice b fs.length d,.func (.func 64) #[] #[]] w fun e w'=>e=.returned (.bool (decide (es.map En.o=fs.map En.o)))∧Below w.heap.size w w':=by
 by_cases hl:es.length=fs.length
 ·obtain ⟨R,hR⟩:∃ R,decide (es.map En.o=fs.map En.o)=R:=⟨_,rfl⟩
  have HR:Hid (decide (es.map En.o=fs.map En.o)=R):=hR
  rw [hR]
  have HS:Hid (∀ W i,Below w.heap.size w W→i < es.length→Calls Tryz.prog 64 #[enV (es.getD i default),enV (fs.getD i default)] W fun e w'=>e=.returned (.bool (decide ((es.getD i default).o=(fs.getD i default).o)))∧Below w.heap.size w w'):=fun W i hb hi=>by
   refine Calls.mono (same_any W _ _ ((hok _ (getD_in hi)).below hb) ((hok' _ (getD_in (by omega))).below hb)) ?_
   rintro e w' ⟨he,h2⟩
   exact ⟨he,hb.trans (h2.mono hb.size)⟩
  have HE:Hid (EIn w a es∧EIn w b fs):=⟨hE,hF⟩
  obtain ⟨n,hnn⟩:∃ n,es.length=n:=⟨_,rfl⟩
  have HN:Hid (es.length=n∧fs.length=n):=⟨hnn,by rw [← hl]; exact hnn⟩
  rw [← hl,hnn]
  rw [hnn] at hn HS
  clear hE hF hok hok' hl hnn hR
  go_enter Tryz.func63,Tryz.ntmps63
  go_wp2_with fail
  go_loopw [17] (fun i wr=>∃ k:Nat,k≤n∧i=.int .i64 k∧Hid (Below w.heap.size w wr∧(es.map En.o).take k=(fs.map En.o).take k)) (fun i _=>n - (intOf i).toNat)
  case atStart=>exact ⟨0,Nat.zero_le _,rfl,Below.refl _ _,rfl⟩
  case round =>
   obtain ⟨k,hk,rfl,HI⟩:=hrel
   by_cases hlt:k < n
   ·have hbr:=HI.out.1
    obtain ⟨p,o,rfl,a0,a1,a2⟩:=(HE.out.1.below hbr) k (by rw [HN.out.1]; exact hlt)
    obtain ⟨p2,o2,rfl,b0,b1,b2⟩:=(HE.out.2.below hbr) k (by rw [HN.out.2]; exact hlt)
    have hp:=lt_of_cell a0
    have hp2:=lt_of_cell b0
    have hsz:=hbr.size
    have hT:=HI.out.2
    obtain ⟨R2,hR2⟩:∃ R,decide ((es.getD k default).o=(fs.getD k default).o)=R:=⟨_,rfl⟩
    have HNX:Hid (R2=true→(es.map En.o).take (k+1)=(fs.map En.o).take (k+1)):=fun h=>by
     rw [h] at hR2
     refine take_eq_next hT (by rw [List.length_map,HN.out.1]; exact hlt) (by rw [List.length_map,HN.out.2]; exact hlt) ?_
     rw [map_getD (by rw [HN.out.1]; exact hlt),map_getD (by rw [HN.out.2]; exact hlt)]
     exact of_decide_eq_true hR2
    have HNO:Hid (R2=false→R=false):=fun h=>by
     rw [h] at hR2
     rw [← HR.out]
     refine decide_eq_false (fun e=>of_decide_eq_false hR2 ?_)
     have:(es.map En.o).getD k default=(fs.map En.o).getD k default:=by rw [e]
     rw [map_getD (by rw [HN.out.1]; exact hlt),map_getD (by rw [HN.out.2]; exact hlt)] at this
     exact this
    have HC:Hid (∀ W,Below w.heap.size w W→Calls Tryz.prog 64 #[enV (es.getD k default),enV (fs.getD k default)] W fun e w'=>e=.returned (.bool R2)∧Below w.heap.size w w'):=fun W hb=>by
     have:=HS.out W k hb hlt
     rw [hR2] at this
     exact this
    obtain ⟨⟨⟨s1,l1,m1⟩,wa1,wc1,pa1,pc1⟩,hx1⟩:∃ x,es.getD k default=x:=⟨_,rfl⟩
    obtain ⟨⟨⟨s2,l2,m2⟩,wa2,wc2,pa2,pc2⟩,hx2⟩:∃ x,fs.getD k default=x:=⟨_,rfl⟩
    rw [hx1] at a0 a1 a2
    rw [hx2] at b0 b1 b2
    have HC2:Hid (∀ W,Below w.heap.size w W→Calls Tryz.prog 64 #[.agg #[.int .i64 s1,.slice wa1 l1.length wc1,.slice pa1 m1.length pc1],.agg #[.int .i64 s2,.slice wa2 l2.length wc2,.slice pa2 m2.length pc2]] W fun e w'=>e=.returned (.bool R2)∧Below w.heap.size w w'):=fun W hb=>by
     have:=HC.out W hb
     rw [hx1,hx2] at this
     exact this
    have HBR:=hiD hbr
    dsimp only at a0 a1 a2 b0 b1 b2
    clear HC hT hR2 hx1 hx2 HI hbr
    go_wp2_with fail
    refine Calls.mono (HC2.out _ ((HBR.out.alloc hsz _).alloc (by simp; omega) _)) ?_
    rintro e w1 ⟨rfl,hb1⟩
    have HB1:=hiD hb1
    clear HC2 hb1 a0 a1 a2 b0 b1 b2 hp hp2 hsz HBR
    cases R2 with
    | true =>
     go_wp2_with fail
     go_roundw
     case rel=>exact ⟨k+1,by omega,by go_num,HB1.out,HNX.out (by trivial)⟩
     case measure=>simp [intOf]; omega
    | false =>
     obtain rfl:R=false:=HNO.out rfl
     go_wp2_with fail
     go_ret
     exact ⟨rfl,HB1.out⟩
   ·obtain rfl:k=n:=by omega
    have hv:R=true:=by
     rw [← HR.out]
     refine decide_eq_true ?_
     have:=HI.out.2
     rw [List.take_of_length_le (by rw [List.length_map,HN.out.1]; exact Nat.le_refl _),List.take_of_length_le (by rw [List.length_map,HN.out.2]; exact Nat.le_refl _)] at this
     exact this
    subst hv
    have HB:=HI.out.1
    have HBR:=hiD HB
    clear HI HB
    go_wp2_with fail
    go_ret
    exact ⟨rfl,HBR.out⟩
 ·have hd:decide (es.map En.o=fs.map En.o)=false:=decide_eq_false (fun h=>hl (by have:=congrArg List.length h; simpa using this))
  rw [hd]
  obtain ⟨n,hnn⟩:∃ n,es.length=n:=⟨_,rfl⟩
  obtain ⟨m,hmm⟩:∃ n,fs.length=n:=⟨_,rfl⟩
  rw [hnn,hmm] at hl ⊢
  have hl':¬ (n:Int)=(m:Int):=by omega
  clear hE hF hok hok' hn hd hnn hmm
  go_enter Tryz.func63,Tryz.ntmps63
  go_wp2_with fail
  go_ret
  exact ⟨rfl,Below.refl _ _⟩
end
section
open Go.RowKit
theorem ens_osin {w:World} {a:Option Addr} {es:List En} (h:EIn w a es) (hok:∀ x,x∈es→EnOk w x):OsIn w a (es.map En.o):=fun i hi=>by
 have hi':i < es.length:=by simpa using hi
 obtain ⟨b,o,h1,h2,h3,h4⟩:=h i hi'
 have hx:=hok _ (show es.getD i default∈es by rw [List.getD_eq_getElem?_getD,List.getElem?_eq_getElem hi']; exact List.getElem_mem hi')
 rw [map_getD hi']
 exact ⟨b,o,_,_,_,_,h1,h2,h3,h4,hx.ws,hx.pr⟩
theorem ens_obd {w:World} {es:List En} (hn:es.length≤100000) (hok:∀ x,x∈es→EnOk w x):OBd (es.map En.o):=by
 refine ⟨by simpa using hn,fun o ho=>?_⟩
 obtain ⟨x,hx,rfl⟩:=List.mem_map.mp ho
 exact ⟨(hok x hx).wl,(hok x hx).pl⟩
def MakeQ (w:World) (L:Nat→Nat) (X:Nat→Nat→Nat→Int) (mode:Int) (s0:Sx) (e:Ending) (w':World):Prop :=
 ∃ pb full ea ec l,e=.returned (.pointer (some ⟨pb,0,none⟩))∧Told (nxX L X mode) (outsX L X mode) s0 4000 full l∧w'.cell? ⟨pb,4,none⟩=some (.slice ea l.length ec)∧w'.cell? ⟨pb,5,none⟩=some (.bool full)∧OsIn w' ea l∧OBd l∧Below w.heap.size w w'
theorem by_told (w:World) (ca:Option Addr) (n cc:Nat) (wa:Option Addr) (wc lk rg:Nat) (mode:Int) (words:List Int) (A:Nat→Option Addr) (L C:Nat→Nat) (X:Nat→Nat→Nat→Int) (hw:SIs w wa words) (hn0:0 < n) (hc:COk n L X words.length lk rg) (hp:PIn w ca n A L C X) (hm:0≤mode) :
  Calls Tryz.prog 24 #[prgV ca n cc wa words.length wc lk rg,.int .i64 mode] w (MakeQ w L X mode (beginX n words lk rg)):=by
 obtain ⟨c,hcd⟩:∃ c:Bc,c=⟨⟨ca,n,cc,wa,words.length,wc,lk,rg,mode⟩,A,L,C,X,words.length,lk,rg,beginX n words lk rg⟩:=⟨_,rfl⟩
 have hok:BcOk c w:=by rw [hcd]; exact ⟨hn0,hc,hp,hm⟩
 refine Calls.mono (by_any w ca n cc wa wc lk rg mode words A L C X c _ hcd rfl hw hok) ?_
 rintro e w' ⟨pb,v,d,ea,ec,es,i,N,rfl,h1,h2,h3⟩
 have ht:=(h1.told h3).1
 have hcnt:=h1.cnt
 have c4:=h1.sp.c4
 have c5:=h1.sp.c5
 rw [h1.ends] at c4
 have hlow:=h1.low
 have hb0:Below w.heap.size w (w.alloc (boxQ ca n cc wa words.length wc lk rg)):=(Below.refl _ _).alloc (Nat.le_refl _) _
 rw [hcd] at ht
 refine ⟨pb,d.full,ea,ec,es.map En.o,rfl,ht,by rw [List.length_map]; exact c4,c5,ens_osin h1.ein.ein (fun x hx=>(h1.eok x hx).ok),ens_obd (w:=w') (by omega) (fun x hx=>(h1.eok x hx).ok),hb0.trans (hlow.mono (by simp))⟩
theorem make_any (w:World) (b:Bool) (ca:Option Addr) (n cc:Nat) (wa:Option Addr) (wc lk rg:Nat) (words:List Int) (A:Nat→Option Addr) (L C:Nat→Nat) (X:Nat→Nat→Nat→Int) (hw:SIs w wa words) (hn0:0 < n) (hc:COk n L X words.length lk rg) (hp:PIn w ca n A L C X) :
  Calls Tryz.prog 8 #[prgV ca n cc wa words.length wc lk rg,.bool b] w (MakeQ w L X (if b then 1 else 0) (beginX n words lk rg)):=by
 have HBY:Hid (∀ V mode,0≤mode→Below w.heap.size w V→Calls Tryz.prog 24 #[prgV ca n cc wa words.length wc lk rg,.int .i64 mode] V (MakeQ V L X mode (beginX n words lk rg))):=fun V mode hm hb=>by
  exact by_told V ca n cc wa wc lk rg mode words A L C X (hw.below hb) hn0 hc (hp.below hb) hm
 have HUP:Hid (∀ V mode e w',Below w.heap.size w V→MakeQ V L X mode (beginX n words lk rg) e w'→MakeQ w L X mode (beginX n words lk rg) e w'):=fun V mode e w' hb ⟨pb,full,ea,ec,l,h1,h2,h3,h4,h5,h6,h7⟩=>⟨pb,full,ea,ec,l,h1,h2,h3,h4,h5,h6,hb.trans (h7.mono hb.size)⟩
 obtain ⟨q,hq⟩:∃ q:Sx,beginX n words lk rg=q:=⟨_,rfl⟩
 obtain ⟨m,hm⟩:∃ m,words.length=m:=⟨_,rfl⟩
 rw [hq,hm] at HBY ⊢
 rw [hq] at HUP
 have HBB:Hid (∀ o,Below w.heap.size w (w.alloc o)):=fun o=>(Below.refl _ _).alloc (Nat.le_refl _) _
 clear hw hn0 hc hp hq hm
 cases b with
 | true =>
  go_enter Tryz.func8,Tryz.ntmps8
  go_wp2_with fail
  refine Calls.mono (HBY.out _ 1 (by decide) (HBB.out _)) ?_
  intro e w1 h1
  have h2:=HUP.out _ _ _ _ (HBB.out _) h1
  obtain ⟨pb,full,ea,ec,l,rfl,h3⟩:=h2
  have H3:=hiD h3
  clear h1 h3
  go_wp2_with fail
  go_ret
  exact ⟨pb,full,ea,ec,l,rfl,H3.out⟩
 | false =>
  go_enter Tryz.func8,Tryz.ntmps8
  go_wp2_with fail
  refine Calls.mono (HBY.out _ 0 (by decide) (HBB.out _)) ?_
  intro e w1 h1
  have h2:=HUP.out _ _ _ _ (HBB.out _) h1
  obtain ⟨pb,full,ea,ec,l,rfl,h3⟩:=h2
  have H3:=hiD h3
  clear h1 h3
  go_wp2_with fail
  go_ret
  exact ⟨pb,full,ea,ec,l,rfl,H3.out⟩
end
section
open Go.RowKit Go.Sort Go.Shelf
theorem alike_any (w:World) (a b:Option Addr) (n m c d:Nat) (r:Bool) (h:Calls Tryz.prog 63 #[.slice a n c,.slice b m d,.func (.func 64) #[] #[]] w fun e w'=>e=.returned (.bool r)∧Below w.heap.size w w') :
  Calls Tryz.prog 28 #[.slice a n c,.slice b m d] w fun e w'=>e=.returned (.bool r)∧Below w.heap.size w w':=by
 have HH:=hiD h
 clear h
 go_enter Tryz.func28,Tryz.ntmps28
 go_wp2_with fail
 refine Calls.mono HH.out ?_
 rintro e w1 ⟨rfl,hb1⟩
 have H1:=hiD hb1
 clear HH hb1
 go_wp2_with fail
 go_ret
 exact ⟨rfl,H1.out⟩
def SpcX (W:World) (L:Nat→Nat) (X:Nat→Nat→Nat→Int) (mode:Int) (s0:Sx) (full:Bool) (a:Option Addr) (len:Nat) (es:List En) (w':World):Prop :=
 Told (nxX L X mode) (outsX L X mode) s0 4000 full (es.map En.o)∧es.length=len∧EIn w' a es∧(∀ x,x∈es→EnOk w' x)∧len≤100000∧(full=true→len=0)∧Below W.heap.size W w'
theorem OutQ.x {W w':World} {L:Nat→Nat} {X:Nat→Nat→Nat→Int} {mode:Int} {s0:Sx} {e:Ending} (h:OutQ W L X mode s0 e w'):∃ (full:Bool) (z:Int) (a:Option Addr) (len cap:Nat) (es:List En),e=.returned (.tuple #[.slice a len cap,ints3 z 0 0])∧Hid (SpcX W L X mode s0 full a len es w'∧z=if full then 10 else 0):=by
 obtain ⟨full,a,len,cap,es,h1,h2,h3,h4,h5,h6,h7,h8⟩:=h.spc (Below.refl _ _)
 exact ⟨full,_,a,len,cap,es,h1,⟨h2,h3,h4,h5,h7,h6,h8⟩,rfl⟩
end
end Go.Proofs.YtelckcpjmekgcacGreatDoor
