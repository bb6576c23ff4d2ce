import Derived.Test.YtelckcpjmekgcacGreatDoorTelP
import Derived.Test.YtelckcpjmekgcacGreatDoorZCopy
namespace Go.Proofs.YtelckcpjmekgcacGreatDoor
set_option maxHeartbeats 3200000
set_option maxRecDepth 100000
section
open Go.RowKit
section
variable {fid:Nat} {caps:Array Value} {B:Nat} {Q:Cd} {sb mb:Nat} {v:Rp→Value} {s:Sx} {I:List Int→World→Prop}
theorem Ear.words (hE:Ear fid caps B Q sb mb v s I) {W:World} {xs:List Int} (h0:I xs W) (hfit:∀ x,x∈s.words→I64n x) (hlen:xs.length+s.words.length≤20000):∃ a c,v .words=.slice a s.words.length c∧Hid (Calls Tryz.prog 108 #[.slice a s.words.length c,.func (.func fid) #[] caps] W fun e w'=>e=.returned (.tuple #[])∧I (xs++s.words) w'):=by
 obtain ⟨a,c,e,_⟩:=(hE.st _ _ h0).rowW
 refine ⟨a,c,e,tellAll_any W fid caps B Q sb mb v s I hE a c s.words xs (fun ys V hV=>?_) hfit hlen h0⟩
 obtain ⟨a',c',e',h⟩:=(hE.st _ _ hV).rowW
 rw [e] at e'
 simp only [Value.slice.injEq] at e'
 rw [e'.1]; exact h
theorem Ear.own (hE:Ear fid caps B Q sb mb v s I) {W:World} {xs:List Int} (h0:I xs W) (hfit:∀ x,x∈s.own→I64n x) (hlen:xs.length+s.own.length≤20000):∃ a c,v .own=.slice a s.own.length c∧Hid (Calls Tryz.prog 108 #[.slice a s.own.length c,.func (.func fid) #[] caps] W fun e w'=>e=.returned (.tuple #[])∧I (xs++s.own) w'):=by
 obtain ⟨a,c,e,_⟩:=(hE.st _ _ h0).rowO
 refine ⟨a,c,e,tellAll_any W fid caps B Q sb mb v s I hE a c s.own xs (fun ys V hV=>?_) hfit hlen h0⟩
 obtain ⟨a',c',e',h⟩:=(hE.st _ _ hV).rowO
 rw [e] at e'
 simp only [Value.slice.injEq] at e'
 rw [e'.1]; exact h
theorem Ear.prints (hE:Ear fid caps B Q sb mb v s I) {W:World} {xs:List Int} (h0:I xs W) (hfit:∀ x,x∈s.prints→I64n x) (hlen:xs.length+s.prints.length≤20000):∃ a c,v .prints=.slice a s.prints.length c∧Hid (Calls Tryz.prog 108 #[.slice a s.prints.length c,.func (.func fid) #[] caps] W fun e w'=>e=.returned (.tuple #[])∧I (xs++s.prints) w'):=by
 obtain ⟨a,c,e,_⟩:=(hE.st _ _ h0).rowP
 refine ⟨a,c,e,tellAll_any W fid caps B Q sb mb v s I hE a c s.prints xs (fun ys V hV=>?_) hfit hlen h0⟩
 obtain ⟨a',c',e',h⟩:=(hE.st _ _ hV).rowP
 rw [e] at e'
 simp only [Value.slice.injEq] at e'
 rw [e'.1]; exact h
theorem Ear.regs (hE:Ear fid caps B Q sb mb v s I) {W:World} {xs:List Int} (h0:I xs W) (t:Nat) (hfit:∀ x,x∈(thOf s t).regs→I64n x) (hlen:xs.length+(thOf s t).regs.length≤20000):∃ a c,v (.regs t)=.slice a (thOf s t).regs.length c∧Hid (Calls Tryz.prog 108 #[.slice a (thOf s t).regs.length c,.func (.func fid) #[] caps] W fun e w'=>e=.returned (.tuple #[])∧I (xs++(thOf s t).regs) w'):=by
 obtain ⟨a,c,e,_⟩:=(hE.st _ _ h0).rowR t
 refine ⟨a,c,e,tellAll_any W fid caps B Q sb mb v s I hE a c (thOf s t).regs xs (fun ys V hV=>?_) hfit hlen h0⟩
 obtain ⟨a',c',e',h⟩:=(hE.st _ _ hV).rowR t
 rw [e] at e'
 simp only [Value.slice.injEq] at e'
 rw [e'.1]; exact h
end
theorem ptell_any (w:World) (fid:Nat) (caps:Array Value) (B:Nat) (Q:Cd) (sb mb:Nat) (v:Rp→Value) (s:Sx) (I:List Int→World→Prop) (hE:Ear fid caps B Q sb mb v s I) (xs:List Int) (hf1:∀ x,x∈s.words→I64n x) (hf2:∀ x,x∈s.own→I64n x) (hlen:xs.length+s.words.length+s.own.length≤20000) (h0:I xs w) :
  Calls Tryz.prog 186 #[.pointer (some ⟨mb,0,none⟩),.func (.func fid) #[] caps] w fun e w'=>e=.returned (.tuple #[])∧I (xs++s.words++s.own) w':=by
 obtain ⟨wa,wc,ew,HC1⟩:=hE.words h0 hf1 (by omega)
 have m0:=(hE.st _ _ h0).m0
 rw [ew] at m0
 have HC2:Hid (∀ W,I (xs++s.words) W→∃ a c,W.cell? ⟨mb,1,none⟩=some (.slice a s.own.length c)∧Hid (Calls Tryz.prog 108 #[.slice a s.own.length c,.func (.func fid) #[] caps] W fun e w'=>e=.returned (.tuple #[])∧I (xs++s.words++s.own) w')):=fun W h=>by
  obtain ⟨a,c,e,h2⟩:=hE.own h hf2 (by rw [List.length_append]; exact hlen)
  have m1:=(hE.st _ _ h).m1
  rw [e] at m1
  exact ⟨a,c,m1,h2⟩
 obtain ⟨n,hn⟩:∃ n,s.words.length=n:=⟨_,rfl⟩
 obtain ⟨k,hk⟩:∃ n,s.own.length=n:=⟨_,rfl⟩
 rw [hn] at m0 HC1
 rw [hk] at HC2
 clear hE ew h0 hlen hn hk hf1 hf2
 go_enter Tryz.func186,Tryz.ntmps186
 go_wp2_with fail
 refine Calls.mono HC1.out ?_
 rintro e w1 ⟨rfl,h1⟩
 obtain ⟨oa,oc,m1,HC3⟩:=HC2.out w1 h1
 clear h1 HC1 HC2
 go_wp2_with fail
 refine Calls.mono HC3.out ?_
 rintro e w2 ⟨rfl,h2⟩
 go_wp2_with fail
 go_end0
 exact ⟨rfl,h2⟩
def telBs (s:Sx) (j:Nat):List Int:=(List.range j).flatMap fun t=>telB (thOf s t)
theorem telBs_all (s:Sx):telBs s s.ths.length=s.ths.flatMap telB:=by
 unfold telBs
 conv=>rhs; rw [show s.ths=(List.range s.ths.length).map (thOf s) by
  refine List.ext_getElem? fun i=>?_
  rw [List.getElem?_map]
  by_cases h:i < s.ths.length
  ·rw [List.getElem?_range h,List.getElem?_eq_getElem h]
   show _=some (thOf s i)
   unfold thOf
   rw [List.getD_eq_getElem?_getD,List.getElem?_eq_getElem h]; rfl
  ·rw [List.getElem?_eq_none (by omega),List.getElem?_eq_none (by simpa using h)]; rfl]
 rw [List.flatMap_map]
theorem telBs_succ (s:Sx) (j:Nat):telBs s (j+1)=telBs s j++([((thOf s j).wait.length:Int)]++(thOf s j).wait.flatMap telW):=by
 unfold telBs
 rw [List.range_succ,List.flatMap_append]
 simp [telB]
theorem waits_next {l:List Wt} {q:Nat} (h:q < l.length):(l.take (q+1)).flatMap telW=(l.take q).flatMap telW++telW (l.getD q default):=by
 rw [List.take_add_one,List.getElem?_eq_getElem h,List.getD_eq_getElem?_getD,List.getElem?_eq_getElem h,List.flatMap_append]
 simp
theorem sign_any (w:World) (lk:Bool) (wh:Int) (h0:0≤wh) (h1:wh≤64) :
  Calls Tryz.prog 204 #[.agg #[.bool lk,.int .i64 wh]] w fun e w'=>e=.returned (.int .i64 (if lk then -1 - wh else wh))∧Below w.heap.size w w':=by
 cases lk with
 | true =>
  go_enter Tryz.func204,Tryz.ntmps204
  go_wp2
  go_ret
  exact ⟨rfl,(Below.refl _ _).alloc (Nat.le_refl _) _⟩
 | false =>
  go_enter Tryz.func204,Tryz.ntmps204
  go_wp2
  go_ret
  exact ⟨rfl,(Below.refl _ _).alloc (Nat.le_refl _) _⟩
theorem Ear.waits {fid:Nat} {caps:Array Value} {B:Nat} {Q:Cd} {sb mb:Nat} {v:Rp→Value} {s:Sx} {I:List Int→World→Prop} (hE:Ear fid caps B Q sb mb v s I) (hb:Q.K.bf=true) {W:World} {ys:List Int} (h0:I ys W) {t q:Nat} (hq:q < (thOf s t).wait.length) {qa:Option Addr} {qc:Nat} (e:v (.buf t)=.slice qa (thOf s t).wait.length qc) :
  ∃ b,qa=some ⟨b,0,none⟩∧b < W.heap.size∧W.cell? ⟨b,q*3,none⟩=some (.bool ((thOf s t).wait.getD q default).lk)∧W.cell? ⟨b,q*3+1,none⟩=some (.int .i64 ((thOf s t).wait.getD q default).wh)∧W.cell? ⟨b,q*3+2,none⟩=some (.int .i64 ((thOf s t).wait.getD q default).what):=by
 have hs:=hE.st _ _ h0
 have ho:=hs.bufO hb t
 obtain ⟨g,cap,h1,h2,_,h3⟩:=fam_block ho (by omega)
 rw [e] at h1
 simp only [Value.slice.injEq] at h1
 exact ⟨g,h1.1,h3,fam_cell ho h2 (rows3_get (j:=0) hq (by omega)),fam_cell ho h2 (rows3_get (j:=1) hq (by omega)),fam_cell ho h2 (rows3_get (j:=2) hq (by omega))⟩
theorem btell_any (w:World) (fid:Nat) (caps:Array Value) (B:Nat) (Q:Cd) (sb mb:Nat) (v:Rp→Value) (s:Sx) (I:List Int→World→Prop) (hE:Ear fid caps B Q sb mb v s I) (hK:Q.K=bufK) (hnt:Q.nt=s.ths.length) (hn0:0 < s.ths.length) (hn4:s.ths.length≤4) (hw3:∀ t,t < s.ths.length→(thOf s t).wait.length≤3) (hwk:∀ t,t < s.ths.length→∀ x,x∈(thOf s t).wait→0≤x.wh∧x.wh≤64) (hf3:∀ t,t < s.ths.length→∀ x,x∈(thOf s t).wait→I64n x.what) (xs:List Int) (hf1:∀ x,x∈s.words→I64n x) (hf2:∀ x,x∈s.own→I64n x) (hlen:xs.length+s.words.length+s.own.length≤19900) (h0:I xs w) :
  Calls Tryz.prog 197 #[.pointer (some ⟨Q.bb,0,none⟩),.func (.func fid) #[] caps] w fun e w'=>e=.returned (.tuple #[])∧I (xs++s.words++s.own++s.ths.flatMap telB) w':=by
 have hb:=buf_bf hK
 have hs:=hE.st _ _ h0
 have b0:=hs.b0 hb
 obtain ⟨lb,lc,hlv,hlb,_⟩:=hs.bufsB hb (by omega)
 have kF:=hE.fn
 have HC1:=hiD (ptell_any w fid caps B Q sb mb v s I hE xs hf1 hf2 (by omega) h0)
 obtain ⟨Y,hY⟩:∃ Y,xs++s.words++s.own=Y:=⟨_,rfl⟩
 have hYl:Y.length≤19900:=by rw [← hY]; simp only [List.length_append]; omega
 rw [hY] at HC1 ⊢
 obtain ⟨n,hn⟩:∃ n,s.ths.length=n:=⟨_,rfl⟩
 rw [hn] at hnt hn0 hn4 hw3 hwk hf3
 have hbl:∀ j,j≤n→(telBs s j).length≤7*j:=by
  intro j
  induction j with
  | zero=>intro _; simp [telBs]
  | succ j ih =>
   intro hj
   rw [telBs_succ]
   have h1:=ih (by omega)
   have h2:=hw3 j (by omega)
   have h3:((thOf s j).wait.flatMap telW).length=2*(thOf s j).wait.length:=by
    generalize (thOf s j).wait=l
    induction l with
    | nil=>rfl
    | cons a r ih=>rw [List.flatMap_cons,List.length_append,ih]; simp [telW]; omega
   simp only [List.length_append,List.length_singleton,h3]
   omega
 have HB:Hid (∀ ys W,I ys W→W.cell? ⟨Q.bb,1,none⟩=some (.slice (some ⟨lb,0,none⟩) n lc)∧∀ j,j < n→∃ qa qc,v (.buf j)=.slice qa (thOf s j).wait.length qc∧W.cell? ⟨lb,j,none⟩=some (.slice qa (thOf s j).wait.length qc)):=fun ys W h=>by
  have hq:=hE.st _ _ h
  have b1:=hq.b1 hb
  rw [hlv,hnt] at b1
  refine ⟨b1,fun j hj=>?_⟩
  obtain ⟨qa,qc,e⟩:=hq.bufV hb j
  have:=hq.bufc hb hlb (t:=j) (by omega)
  rw [e] at this
  exact ⟨qa,qc,e,this⟩
 have HT:Hid (∀ ys W m,I64n m→ys.length≤20000→I ys W→Calls Tryz.prog fid (#[.int .i64 m]++caps) W fun e W'=>e=.returned (.tuple #[])∧I (ys++[m]) W'∧Txt W W'):=hE.tell
 have HMORE:Hid (∀ ys W W',I ys W→Below W.heap.size W W'→I ys W'):=hE.more
 have HALL:Hid (telBs s n=s.ths.flatMap telB):=by show _=_; rw [← hn]; exact telBs_all s
 have HW3:Hid (∀ t,t < n→(thOf s t).wait.length≤3∧(∀ x,x∈(thOf s t).wait→0≤x.wh∧x.wh≤64)∧∀ x,x∈(thOf s t).wait→I64n x.what):=fun t ht=>⟨hw3 t ht,hwk t ht,hf3 t ht⟩
 have HBL:=hiD hbl
 have HE:=hiD hE
 have HBF:Hid (Q.K.bf=true):=hb
 rw [show s.ths.flatMap telB=telBs s n from HALL.out.symm]
 clear hE hs hlv hlb hK hnt hw3 hwk hf1 hf2 hf3 hlen h0 hY hn hbl HALL hb
 go_enter Tryz.func197,Tryz.ntmps197
 go_wp2_with fail
 refine Calls.mono HC1.out ?_
 rintro e w1 ⟨rfl,h1⟩
 obtain ⟨b1,_⟩:=HB.out _ _ h1
 have H1:Hid (I (Y++telBs s 0) w1):=by show I _ _; simpa [telBs] using h1
 clear h1 HC1
 go_wp2_with fail
 go_loopw [19] (fun i wr=>∃ j:Nat,j≤n∧i=.int .i64 j∧Hid (I (Y++telBs s j) wr)) (fun i _=>n - (intOf i).toNat)
 case atStart=>exact ⟨0,Nat.zero_le _,rfl,H1⟩
 case round =>
  obtain ⟨j,hj,rfl,HI⟩:=hrel
  by_cases hlt:j < n
  ·obtain ⟨_,hcell⟩:=HB.out _ _ HI.out
   obtain ⟨qa,qc,eq,cq⟩:=hcell j hlt
   have HEQ:Hid (v (.buf j)=.slice qa (thOf s j).wait.length qc):=eq
   obtain ⟨hl3,hwk,hfw⟩:=HW3.out j hlt
   have hlj:=HBL.out j (by omega)
   obtain ⟨k,hk⟩:∃ k,(thOf s j).wait.length=k:=⟨_,rfl⟩
   have HK:Hid ((thOf s j).wait.length=k):=hk
   have HWK:Hid (∀ q,q < k→(0≤((thOf s j).wait.getD q default).wh∧((thOf s j).wait.getD q default).wh≤64)∧I64n ((thOf s j).wait.getD q default).what):=fun q hq=>by
    have hq':q < (thOf s j).wait.length:=by rw [hk]; exact hq
    have hm:(thOf s j).wait.getD q default∈(thOf s j).wait:=by
     rw [List.getD_eq_getElem?_getD,List.getElem?_eq_getElem hq']; exact List.getElem_mem hq'
    exact ⟨hwk _ hm,hfw _ hm⟩
   rw [hk] at cq hl3
   have HC2:=hiD (HT.out (Y++telBs s j) wr (k:Int) ⟨by omega,by omega⟩ (by rw [List.length_append]; omega) HI.out)
   clear eq hwk hfw hk hcell HI H1 b1
   go_wp2_with fail
   refine Calls.mono HC2.out ?_
   rintro e w2 ⟨rfl,h2,_⟩
   have H2:Hid (I (Y++telBs s j++[(k:Int)]++((thOf s j).wait.take 0).flatMap telW) w2):=by show I _ _; simpa using h2
   clear HC2 h2
   go_wp2_with fail
   go_loopw [29] (fun i wr2=>∃ q:Nat,q≤k∧i=.int .i64 q∧Hid (I (Y++telBs s j++[(k:Int)]++((thOf s j).wait.take q).flatMap telW) wr2)) (fun i _=>k - (intOf i).toNat)
   case atStart=>exact ⟨0,Nat.zero_le _,rfl,H2⟩
   case round =>
    obtain ⟨q,hq,rfl,HI⟩:=hrel
    clear H2
    by_cases hql:q < k
    ·obtain ⟨b,rfl,lb',x0,x1,x2⟩:=HE.out.waits HBF.out HI.out (t:=j) (q:=q) (by rw [HK.out]; exact hql) HEQ.out
     obtain ⟨⟨hw0,hw6⟩,hwf⟩:=HWK.out q hql
     have HN:Hid (((thOf s j).wait.take (q+1)).flatMap telW=((thOf s j).wait.take q).flatMap telW++telW ((thOf s j).wait.getD q default)):=waits_next (by rw [HK.out]; exact hql)
     obtain ⟨⟨lk,wh,what⟩,hx⟩:∃ x,(thOf s j).wait.getD q default=x:=⟨_,rfl⟩
     rw [hx] at x0 x1 x2 hw0 hw6 hwf HN
     clear hx
     dsimp only at x0 x1 x2 hw0 hw6 hwf
     have HLN:Hid ((Y++telBs s j++[(k:Int)]++((thOf s j).wait.take q).flatMap telW).length≤19999):=by
      have h3:∀ l:List Wt,(l.flatMap telW).length=2*l.length:=by
       intro l
       induction l with
       | nil=>rfl
       | cons a r ih=>rw [List.flatMap_cons,List.length_append,ih]; simp [telW]; omega
      show _≤_
      simp only [List.length_append,List.length_singleton,h3,List.length_take]
      omega
     obtain ⟨V,hV⟩:∃ V,V=wr.alloc (.cells #[.bool lk,.int .i64 wh,.int .i64 what] 268):=⟨_,rfl⟩
     have HIV:Hid (I (Y++telBs s j++[(k:Int)]++((thOf s j).wait.take q).flatMap telW) V):=HMORE.out _ _ _ HI.out (by rw [hV]; exact (Below.refl _ _).alloc (Nat.le_refl _) _)
     have hVb:V.heap[wr.heap.size]? = some (.cells #[.bool lk,.int .i64 wh,.int .i64 what] 268):=by rw [hV]; exact heap_alloc_new _ _
     have HSG:=hiD (sign_any V lk wh hw0 hw6)
     have HV:Hid (wr.alloc (.cells #[.bool lk,.int .i64 wh,.int .i64 what] 268)=V):=hV.symm
     have HVB:=hiD hVb
     clear hV hVb HI HWK
     go_wp2_with fail
     rw [HV.out]
     refine Calls.mono HSG.out ?_
     rintro e w3 ⟨rfl,hb3⟩
     have HI3:=hiD (HMORE.out _ _ _ HIV.out hb3)
     have hbx3:w3.heap[wr.heap.size]? = some (.cells #[.bool lk,.int .i64 wh,.int .i64 what] 268):=(hb3.block _ (box_lt HVB.out)).trans HVB.out
     obtain ⟨sg,hsg⟩:∃ x:Int,(if lk=true then -1 - wh else wh)=x:=⟨_,rfl⟩
     have hsgf:I64n sg:=by rw [← hsg]; split <;> exact ⟨by omega,by omega⟩
     have HSGE:Hid ((if lk=true then -1 - wh else wh)=sg):=hsg
     rw [hsg]
     have HC3:=hiD (HT.out _ w3 sg hsgf (by have:=HLN.out; omega) HI3.out)
     have HBX3:=hiD hbx3
     clear HSG hb3 hbx3 HI3 HIV hsg
     go_wp2_with fail
     refine Calls.mono HC3.out ?_
     rintro e w4 ⟨rfl,h4,ht4⟩
     have hbx4:=ht4 _ _ _ (by decide) (by decide) HBX3.out
     have c2:w4.cell? ⟨wr.heap.size,2,none⟩=some (.int .i64 what):=box_cell hbx4 rfl
     have HC4:=hiD (HT.out _ w4 what hwf (by rw [List.length_append]; have:=HLN.out; simp only [List.length_singleton]; omega) h4)
     clear HC3 h4 ht4 hbx4 HBX3
     go_wp2_with fail
     refine Calls.mono HC4.out ?_
     rintro e w5 ⟨rfl,h5,_⟩
     have H5:Hid (I (Y++telBs s j++[(k:Int)]++((thOf s j).wait.take (q+1)).flatMap telW) w5):=by
      show I _ _
      rw [HN.out]
      have e:telW ⟨lk,wh,what⟩=[sg]++[what]:=by rw [← HSGE.out]; rfl
      rw [e]
      simpa only [List.append_assoc] using h5
     clear HC4 h5
     go_wp2_with fail
     go_roundw
     case rel=>exact ⟨q+1,by omega,by go_num,H5⟩
     case measure=>simp [intOf]; omega
    ·obtain rfl:q=k:=by omega
     have H5:Hid (I (Y++telBs s (j+1)) wr):=by
      show I _ _
      rw [telBs_succ,HK.out]
      have h5:=HI.out
      rw [show (thOf s j).wait.take q=(thOf s j).wait by rw [← HK.out,List.take_length]] at h5
      simpa only [List.append_assoc] using h5
     clear HI
     go_wp2_with fail
     go_roundw
     case rel=>exact ⟨j+1,by omega,by go_num,H5⟩
     case measure=>simp [intOf]; omega
  ·obtain rfl:j=n:=by omega
   go_wp2
   go_end0
   exact ⟨rfl,HI.out⟩
end
section
open Go.RowKit
structure TOk (Q:Cd) (s:Sx):Prop where
 nt:Q.nt=s.ths.length
 n0:0 < s.ths.length
 n4:s.ths.length≤4
 pc:∀ t,t < s.ths.length→(thOf s t).pc≤1000
 rg:∀ t,t < s.ths.length→(thOf s t).regs.length≤200
 wl:∀ t,t < s.ths.length→(thOf s t).wait.length≤3
 wk:∀ t,t < s.ths.length→∀ x,x∈(thOf s t).wait→0≤x.wh∧x.wh≤64
 words:s.words.length≤64
 own:s.own.length≤4
 pr:s.prints.length≤10000
 v:VOk s
structure MTell (K:Mk) (tf:Nat):Prop where
 mTell : ∀ (a : Addr) (w : World), (method 380 K.tid (.pointer (some a)) "Tell").run Tryz.prog w = .ok (tf, .pointer (some a)) w
 cTell:∀ (xs:Array Value) (w:World),(callFunc tf xs).run Tryz.prog w=.ok (.enter tf xs) w
 tell:∀ (w:World) (fid:Nat) (caps:Array Value) (B:Nat) (Q:Cd) (sb mb:Nat) (v:Rp→Value) (s:Sx) (I:List Int→World→Prop) (xs:List Int),Q.K=K→Ear fid caps B Q sb mb v s I→TOk Q s→xs.length≤10000→I xs w →
  Calls Tryz.prog tf #[.pointer (some ⟨Q.top mb,0,none⟩),.func (.func fid) #[] caps] w fun e w'=>e=.returned (.tuple #[])∧I (xs++telM K.mode s) w'
theorem plain_tell:MTell plainK 186 where
 mTell a w:=by kernel_rfl
 cTell xs w:=by kernel_rfl
 tell w fid caps B Q sb mb v s I xs hK hE ho hx h0:=by
  rw [plain_top hK]
  have h1:=ho.words
  have h2:=ho.own
  refine (ptell_any w fid caps B Q sb mb v s I hE xs ho.v.words ho.v.own (by omega) h0).mono fun e w' h=>⟨h.1,?_⟩
  have e:telM plainK.mode s=s.words++s.own:=by
   unfold telM
   rw [if_neg (by decide),List.append_nil]
  rw [e,← List.append_assoc]
  exact h.2
theorem buf_tell:MTell bufK 197 where
 mTell a w:=by kernel_rfl
 cTell xs w:=by kernel_rfl
 tell w fid caps B Q sb mb v s I xs hK hE ho hx h0:=by
  rw [buf_top hK]
  have h1:=ho.words
  have h2:=ho.own
  refine (btell_any w fid caps B Q sb mb v s I hE hK ho.nt ho.n0 ho.n4 ho.wl ho.wk (fun t ht x hx=>ho.v.wait _ (thOf_mem ht) x hx) xs ho.v.words ho.v.own (by omega) h0).mono fun e w' h=>⟨h.1,?_⟩
  have e:telM bufK.mode s=s.words++s.own++s.ths.flatMap telB:=by
   unfold telM
   rw [if_pos (by decide)]
  rw [e,← List.append_assoc,← List.append_assoc]
  exact h.2
def telTs (s:Sx) (j:Nat):List Int:=(List.range j).flatMap fun t=>telT (thOf s t)
theorem telTs_all (s:Sx):telTs s s.ths.length=s.ths.flatMap telT:=by
 unfold telTs
 conv=>rhs; rw [show s.ths=(List.range s.ths.length).map (thOf s) by
  refine List.ext_getElem? fun i=>?_
  rw [List.getElem?_map]
  by_cases h:i < s.ths.length
  ·rw [List.getElem?_range h,List.getElem?_eq_getElem h]
   show _=some (thOf s i)
   unfold thOf
   rw [List.getD_eq_getElem?_getD,List.getElem?_eq_getElem h]; rfl
  ·rw [List.getElem?_eq_none (by omega),List.getElem?_eq_none (by simpa using h)]; rfl]
 rw [List.flatMap_map]
theorem telTs_succ (s:Sx) (j:Nat):telTs s (j+1)=telTs s j++[((thOf s j).pc:Int)]++(thOf s j).regs:=by
 unfold telTs
 rw [List.range_succ,List.flatMap_append]
 simp [telT]
theorem stell_any (w:World) (fid:Nat) (caps:Array Value) (B:Nat) (Q:Cd) (sb mb:Nat) (v:Rp→Value) (s:Sx) (I:List Int→World→Prop) (hE:Ear fid caps B Q sb mb v s I) (tf:Nat) (hT:MTell Q.K tf) (ho:TOk Q s) (h0:I [] w) :
  Calls Tryz.prog 75 #[.pointer (some ⟨sb,0,none⟩),.func (.func fid) #[] caps] w fun e w'=>e=.returned (.tuple #[])∧I (telX Q.K.mode s) w':=by
 have hs:=hE.st _ _ h0
 obtain ⟨tb,tc,hth,htb,_⟩:=hs.blk .thr (by show 0 < s.ths.length; exact ho.n0)
 change v .thr=.slice (some ⟨tb,0,none⟩) s.ths.length tc at hth
 have kF:=hE.fn
 have mT:=hT.mTell
 have kT:=hT.cTell
 obtain ⟨n,hn⟩:∃ n,s.ths.length=n:=⟨_,rfl⟩
 have hn4:n≤4:=by rw [← hn]; exact ho.n4
 have hlen:∀ j,j≤n→(telTs s j).length≤201*j:=by
  intro j
  induction j with
  | zero=>intro _; simp [telTs]
  | succ j ih =>
   intro hj
   rw [telTs_succ]
   have h1:=ih (by omega)
   have h2:=ho.rg j (by omega)
   simp only [List.length_append,List.length_singleton]
   omega
 have HB:Hid (∀ ys W,I ys W→W.cell? ⟨sb,1,none⟩=some (.slice (some ⟨tb,0,none⟩) n tc)∧W.cell? ⟨sb,0,none⟩=some (.iface Q.K.tid (.pointer (some ⟨Q.top mb,0,none⟩)))):=fun ys W h=>by
  have hq:=hE.st _ _ h
  have c1:=hq.c1
  rw [hth,hn] at c1
  exact ⟨c1,hq.c0⟩
 have HP:Hid (∀ ys W j,j < n→I ys W→W.cell? ⟨tb,j*3+1,none⟩=some (.int .i64 (thOf s j).pc)):=fun ys W j hj h=>(hE.st _ _ h).pc htb (by omega)
 have HR:Hid (∀ ys W j,j < n→ys.length≤10000→I ys W→∃ a c,W.cell? ⟨tb,j*3+2,none⟩=some (.slice a (thOf s j).regs.length c)∧Hid (Calls Tryz.prog 108 #[.slice a (thOf s j).regs.length c,.func (.func fid) #[] caps] W fun e w'=>e=.returned (.tuple #[])∧I (ys++(thOf s j).regs) w')):=fun ys W j hj hy h=>by
  have hjs:j < s.ths.length:=by omega
  obtain ⟨a,c,e,hc⟩:=hE.regs h j (fun x hx=>ho.v.regs _ (thOf_mem hjs) x hx) (by have:=ho.rg j hjs; omega)
  have:=(hE.st _ _ h).regs htb hjs
  rw [e] at this
  exact ⟨a,c,this,hc⟩
 have HT:Hid (∀ ys W m,I64n m→ys.length≤20000→I ys W→Calls Tryz.prog fid (#[.int .i64 m]++caps) W fun e W'=>e=.returned (.tuple #[])∧I (ys++[m]) W'∧Txt W W'):=hE.tell
 have HM:Hid (∀ ys W,ys.length≤10000→I ys W→Calls Tryz.prog tf #[.pointer (some ⟨Q.top mb,0,none⟩),.func (.func fid) #[] caps] W fun e w'=>e=.returned (.tuple #[])∧I (ys++telM Q.K.mode s) w'):=fun ys W hy h=>hT.tell W fid caps B Q sb mb v s I ys rfl hE ho hy h
 have HPR:Hid (∀ ys W,ys.length≤10000→I ys W→∃ a c,W.cell? ⟨sb,2,none⟩=some (.slice a s.prints.length c)∧Hid (Calls Tryz.prog 108 #[.slice a s.prints.length c,.func (.func fid) #[] caps] W fun e w'=>e=.returned (.tuple #[])∧I (ys++s.prints) w')):=fun ys W hy h=>by
  obtain ⟨a,c,e,hc⟩:=hE.prints h ho.v.prints (by have:=ho.pr; omega)
  have:=(hE.st _ _ h).c2
  rw [e] at this
  exact ⟨a,c,this,hc⟩
 have HPC:Hid (∀ j,j < n→(thOf s j).pc≤1000):=fun j hj=>ho.pc j (by omega)
 have HL:=hiD hlen
 have HML:Hid ((telM Q.K.mode s).length≤200):=by
  show _≤_
  unfold telM
  have h1:=ho.words
  have h2:=ho.own
  have h3:(s.ths.flatMap telB).length≤28:=by
   rw [← telBs_all]
   have:∀ j,j≤s.ths.length→(telBs s j).length≤7*j:=by
    intro j
    induction j with
    | zero=>intro _; simp [telBs]
    | succ j ih =>
     intro hj
     rw [telBs_succ]
     have h1:=ih (by omega)
     have h2:=ho.wl j (by omega)
     have h3:((thOf s j).wait.flatMap telW).length=2*(thOf s j).wait.length:=by
      generalize (thOf s j).wait=l
      induction l with
      | nil=>rfl
      | cons a r ih=>rw [List.flatMap_cons,List.length_append,ih]; simp [telW]; omega
     simp only [List.length_append,List.length_singleton,h3]
     omega
   have h4:=this _ (Nat.le_refl _)
   have h5:=ho.n4
   omega
  split
  ·simp only [List.length_append]; omega
  ·simp only [List.length_append,List.length_nil]; omega
 have HALL:Hid (telTs s n++telM Q.K.mode s++s.prints=telX Q.K.mode s):=by
  show _=_
  rw [← hn,telTs_all]; rfl
 have c1:=(HB.out _ _ h0).1
 have H0:Hid (I (telTs s 0) w):=h0
 clear hE hs hth htb hT ho hlen hn h0
 go_enter Tryz.func75,Tryz.ntmps75
 go_wp2_with fail
 go_loopw [10] (fun i wr=>∃ j:Nat,j≤n∧i=.int .i64 j∧Hid (I (telTs s j) wr)) (fun i _=>n - (intOf i).toNat)
 case atStart=>exact ⟨0,Nat.zero_le _,rfl,H0⟩
 case round =>
  obtain ⟨j,hj,rfl,HI⟩:=hrel
  clear H0 c1
  obtain ⟨c1,c0⟩:=HB.out _ _ HI.out
  by_cases hlt:j < n
  ·have cp:=HP.out _ _ j hlt HI.out
   have hpc:=HPC.out j hlt
   have hl:=HL.out j (by omega)
   obtain ⟨pc,epc⟩:∃ x,(thOf s j).pc=x:=⟨_,rfl⟩
   have HEP:Hid ((thOf s j).pc=pc):=epc
   rw [epc] at cp hpc
   have HC1:=hiD (HT.out _ wr (pc:Int) ⟨by omega,by omega⟩ (by omega) HI.out)
   clear epc HI
   go_wp2_with fail
   refine Calls.mono HC1.out ?_
   rintro e w1 ⟨rfl,h1,_⟩
   obtain ⟨c11,_⟩:=HB.out _ _ h1
   obtain ⟨a,c,cr,HC2⟩:=HR.out _ _ j hlt (by rw [List.length_append]; simp only [List.length_singleton]; omega) h1
   obtain ⟨rl,erl⟩:∃ x,(thOf s j).regs.length=x:=⟨_,rfl⟩
   rw [erl] at cr HC2
   clear HC1 h1 erl c1 cp
   go_wp2_with fail
   refine Calls.mono HC2.out ?_
   rintro e w2 ⟨rfl,h2⟩
   have H2:Hid (I (telTs s (j+1)) w2):=by
    show I _ _
    rw [telTs_succ,HEP.out]
    exact h2
   clear HC2 h2
   go_wp2_with fail
   go_roundw
   case rel=>exact ⟨j+1,by omega,by go_num,H2⟩
   case measure=>simp [intOf]; omega
  ·obtain rfl:j=n:=by omega
   have hl:=HL.out j (Nat.le_refl _)
   have HC1:=hiD (HM.out _ wr (by omega) HI.out)
   clear HI
   go_wp2_with fail
   refine Calls.mono HC1.out ?_
   rintro e w1 ⟨rfl,h1⟩
   obtain ⟨a,c,cp,HC2⟩:=HPR.out _ _ (by rw [List.length_append]; have:=HML.out; omega) h1
   obtain ⟨pl,epl⟩:∃ x,s.prints.length=x:=⟨_,rfl⟩
   rw [epl] at cp HC2
   clear HC1 h1 epl
   go_wp2_with fail
   refine Calls.mono HC2.out ?_
   rintro e w2 ⟨rfl,h2⟩
   have H2:Hid (I (telX Q.K.mode s) w2):=by
    show I _ _
    rw [← HALL.out]
    exact h2
   clear HC2 h2
   go_wp2_with fail
   go_end0
   exact ⟨rfl,H2.out⟩
end
section
open Go.RowKit
section
variable {ι:Type} {w w':World} {vf vf':ι→Value}
theorem DSt.moved {B:Nat} {P:Pg} {sb:Nat} {v:Rl→Value} {s:Sx} (h:DSt w B P sb v s) (ho:∀ r g,(v r).ownBlock=some g→∀ q,(vf q).ownBlock≠some g) (hm:Moved w w' vf vf'):DSt w' B P sb v s∧∀ r g,(v r).ownBlock=some g→∀ q,(vf' q).ownBlock≠some g :=
 ⟨⟨⟨fun r=>fam_keeps (h.fam.own r) (fun g hg=>hm.block g (h.fam.lt hg) (ho r g hg)),h.fam.apart⟩,h.box⟩,fun r g hg=>hm.out (h.fam.lt hg) (ho r g hg)⟩
theorem IsI.moved {B:Nat} {a:Option Addr} {len c:Nat} {xs:List Int} (h:IsI w B a len c xs) (ho:∀ g,(Value.slice a len c).ownBlock=some g→∀ q,(vf q).ownBlock≠some g) (hm:Moved w w' vf vf'):IsI w' B a len c xs∧∀ g,(Value.slice a len c).ownBlock=some g→∀ q,(vf' q).ownBlock≠some g :=
 ⟨⟨h.is,fam_keeps h.own (fun g hg=>hm.block g (h.own.lt g hg).2 (ho g hg))⟩,fun g hg=>hm.out (h.own.lt g hg).2 (ho g hg)⟩
def LIo (w:World) (vf:ι→Value) (a:Option Addr) (x:List Int):Prop:=∀ i,i < x.length→∃ b o,a=some ⟨b,o,none⟩∧w.cell? ⟨b,o+i,none⟩=some (.int .i64 (x.getD i 0))∧∀ q,(vf q).ownBlock≠some b
theorem LIo.li {a:Option Addr} {x:List Int} (h:LIo w vf a x):LI w a x:=fun i hi=>by
 obtain ⟨b,o,h1,h2,_⟩:=h i hi
 exact ⟨b,o,h1,h2⟩
theorem LIo.moved {a:Option Addr} {x:List Int} (h:LIo w vf a x) (hm:Moved w w' vf vf'):LIo w' vf' a x:=fun i hi=>by
 obtain ⟨b,o,h1,h2,h3⟩:=h i hi
 exact ⟨b,o,h1,(hm.cell (a:=⟨b,o+i,none⟩) (lt_of_cell h2) h3).trans h2,hm.out (lt_of_cell h2) h3⟩
end
inductive Sr where
 | box
 | st
 | ks
 | hd
 | bf
deriving DecidableEq
def sTy:Sr→TypeId
 | .box=>42
 | .st=>120
 | .ks=>23
 | _=>3
def sSz:Sr→Nat
 | .box=>6
 | _=>1
structure Sd where
 sbs:List Nat
 ss:List Sx
 ks:List (Option Addr × Nat)
 ends:Value
 full:Bool
def keyL (d:Sd) (i:Nat):List Int:=numsX (d.ss.getD i default)
def sumsD (d:Sd) (i:Nat):Nat:=sumL (keyL d i)
def keyV (d:Sd) (i:Nat):Value:=.slice (d.ks.getD i default).1 (keyL d i).length (d.ks.getD i default).2
def headsD (d:Sd):List Int:=(List.range 4096).map fun h=>lastS (sumsD d) h d.ss.length
def beforeD (d:Sd):List Int:=(List.range d.ss.length).map fun i=>lastS (sumsD d) (sumsD d i) i
def sN (d:Sd):Sr→Nat
 | .box=>1
 | .hd=>4096
 | _=>d.ss.length
def sX (v:Sr→Value) (d:Sd):Sr→List Value
 | .box=>[v .st,v .ks,v .hd,v .bf,d.ends,.bool d.full]
 | .st=>d.sbs.map fun b=>.pointer (some ⟨b,0,none⟩)
 | .ks=>(List.range d.ss.length).map (keyV d)
 | .hd=>intsV (headsD d)
 | .bf=>intsV (beforeD d)
structure SpIn (w:World) (B:Nat) (P:Pg) (pb:Nat) (v:Sr→Value) (d:Sd):Prop where
 fam:Fam w B sTy sSz v (sN d) (sX v d)
 box:v .box=boxV pb
 len:d.sbs.length=d.ss.length
 klen:d.ks.length=d.ss.length
 states:∀ i,i < d.ss.length→∃ B' v',DSt w B' P (d.sbs.getD i 0) v' (d.ss.getD i default)∧∀ r g,(v' r).ownBlock=some g→∀ q,(v q).ownBlock≠some g
 keys:∀ i,i < d.ss.length→∃ B',IsI w B' (d.ks.getD i default).1 (keyL d i).length (d.ks.getD i default).2 (keyL d i)∧∀ g,(keyV d i).ownBlock=some g→∀ q,(v q).ownBlock≠some g
section
variable {w w1:World} {B:Nat} {P:Pg} {pb:Nat} {v:Sr→Value} {d:Sd}
theorem SpIn.below (h:SpIn w B P pb v d) (hb:Below w.heap.size w w1):SpIn w1 B P pb v d :=
 ⟨h.fam.below hb,h.box,h.len,h.klen,fun i hi=>by
  obtain ⟨B',v',h1,h2⟩:=h.states i hi
  exact ⟨B',v',h1.below hb,h2⟩,fun i hi=>by
  obtain ⟨B',h1,h2⟩:=h.keys i hi
  exact ⟨B',h1.below hb,h2⟩⟩
theorem SpIn.bblk (h:SpIn w B P pb v d):(v .box).ownBlock=some pb:=by rw [h.box]; rfl
theorem SpIn.c0 (h:SpIn w B P pb v d):w.cell? ⟨pb,0,none⟩=some (v .st):=h.fam.cell h.bblk rfl
theorem SpIn.c1 (h:SpIn w B P pb v d):w.cell? ⟨pb,1,none⟩=some (v .ks):=h.fam.cell h.bblk rfl
theorem SpIn.c2 (h:SpIn w B P pb v d):w.cell? ⟨pb,2,none⟩=some (v .hd):=h.fam.cell h.bblk rfl
theorem SpIn.c3 (h:SpIn w B P pb v d):w.cell? ⟨pb,3,none⟩=some (v .bf):=h.fam.cell h.bblk rfl
theorem SpIn.c4 (h:SpIn w B P pb v d):w.cell? ⟨pb,4,none⟩=some d.ends:=h.fam.cell h.bblk rfl
theorem SpIn.c5 (h:SpIn w B P pb v d):w.cell? ⟨pb,5,none⟩=some (.bool d.full):=h.fam.cell h.bblk rfl
theorem SpIn.hdB (h:SpIn w B P pb v d):∃ hb hc,v .hd=.slice (some ⟨hb,0,none⟩) 4096 hc∧(v .hd).ownBlock=some hb:=by
 obtain ⟨g,c,h1,h2,_,_⟩:=fam_block (h.fam.own .hd) (by show 0 < 4096; omega)
 exact ⟨g,c,h1,h2⟩
theorem SpIn.head (h:SpIn w B P pb v d) {hb k:Nat} (e:(v .hd).ownBlock=some hb) (hk:k < 4096):w.cell? ⟨hb,k,none⟩=some (.int .i64 (lastS (sumsD d) k d.ss.length)):=by
 refine h.fam.cell e (u:=.int .i64 _) ?_
 show (intsV (headsD d))[k]? = _
 unfold intsV headsD
 rw [List.map_map,List.getElem?_map,List.getElem?_range hk]
 rfl
theorem SpIn.bfB (h:SpIn w B P pb v d) (hn:0 < d.ss.length):∃ hb hc,v .bf=.slice (some ⟨hb,0,none⟩) d.ss.length hc∧(v .bf).ownBlock=some hb:=by
 obtain ⟨g,c,h1,h2,_,_⟩:=fam_block (h.fam.own .bf) (by exact hn)
 exact ⟨g,c,h1,h2⟩
theorem SpIn.before (h:SpIn w B P pb v d) {hb i:Nat} (e:(v .bf).ownBlock=some hb) (hi:i < d.ss.length):w.cell? ⟨hb,i,none⟩=some (.int .i64 (lastS (sumsD d) (sumsD d i) i)):=by
 refine h.fam.cell e (u:=.int .i64 _) ?_
 show (intsV (beforeD d))[i]? = _
 unfold intsV beforeD
 rw [List.map_map,List.getElem?_map,List.getElem?_range hi]
 rfl
theorem SpIn.ksB (h:SpIn w B P pb v d) (hn:0 < d.ss.length):∃ hb hc,v .ks=.slice (some ⟨hb,0,none⟩) d.ss.length hc∧(v .ks).ownBlock=some hb:=by
 obtain ⟨g,c,h1,h2,_,_⟩:=fam_block (h.fam.own .ks) (by exact hn)
 exact ⟨g,c,h1,h2⟩
theorem SpIn.key (h:SpIn w B P pb v d) {hb i:Nat} (e:(v .ks).ownBlock=some hb) (hi:i < d.ss.length):w.cell? ⟨hb,i,none⟩=some (keyV d i):=by
 refine h.fam.cell e ?_
 show ((List.range d.ss.length).map (keyV d))[i]? = _
 rw [List.getElem?_map,List.getElem?_range hi]
 rfl
end
end
section
open Go.RowKit
theorem infoP:(Tryz.prog.info? 120).map (fun i=>(i.zero,i.size,i.bytes))=some (some (.pointer none),1,8):=by kernel_rfl
theorem infoL:(Tryz.prog.info? 23).map (fun i=>(i.zero,i.size,i.bytes))=some (some nilV,1,24):=by kernel_rfl
section
variable {ι:Type} [DecidableEq ι] {w w1:World} {B:Nat} {ty:ι→TypeId} {sz:ι→Nat} {v:ι→Value} {n:ι→Nat} {xs:ι→List Value}
theorem Fam.grew (h:Fam w B ty sz v n xs) {r:ι} {g m c H:Nat} {ys:List Value} (hown:w1.ownsRow B (ty r) (sz r) (.slice (some ⟨g,0,none⟩) m c) m ys) (hgrow:w.grownBy w1 (v r).ownBlock) (hat:(v r).ownBlock=some g∨g=H) (hH:w.heap.size≤H) :
  Fam w1 B ty sz (upd v r (.slice (some ⟨g,0,none⟩) m c)) (upd n r m) (upd xs r ys) :=
 h.grow (r:=r) (n1:=upd n r m) (xs1:=upd xs r ys) hown hgrow hat hH (upd_self _ _ _) (fun _ hq=>upd_ne _ _ hq) (upd_self _ _ _) (fun _ hq=>upd_ne _ _ hq)
theorem Fam.store (h:Fam w B ty sz v n xs) {r:ι} {g:Nat} (e:(v r).ownBlock=some g) (i:Nat) (u:Value):Fam (w.setCell ⟨g,i,none⟩ u) B ty sz v n (upd xs r ((xs r).set i u)) :=
 h.put e i u (fun _=>rfl) (upd_self _ _ _) (fun _ hq=>upd_ne _ _ hq)
end
def Sd.push (d:Sd) (xb:Nat) (sx:Sx) (ka:Option Addr) (kc:Nat):Sd:=⟨d.sbs++[xb],d.ss++[sx],d.ks++[(ka,kc)],d.ends,d.full || decide (4000 < d.ss.length+1)⟩
section
variable {d:Sd} {xb:Nat} {sx:Sx} {ka:Option Addr} {kc:Nat}
theorem push_ss {i:Nat} (hi:i < d.ss.length):(d.push xb sx ka kc).ss.getD i default=d.ss.getD i default:=by
 show (d.ss++[sx]).getD i default=_
 simp [List.getD,List.getElem?_append_left hi]
theorem push_new:(d.push xb sx ka kc).ss.getD d.ss.length default=sx:=by
 show (d.ss++[sx]).getD d.ss.length default=_
 simp [List.getD]
theorem push_len:(d.push xb sx ka kc).ss.length=d.ss.length+1:=by
 show (d.ss++[sx]).length=_
 simp
theorem push_key {i:Nat} (hi:i < d.ss.length):keyL (d.push xb sx ka kc) i=keyL d i:=by unfold keyL; rw [push_ss hi]
theorem push_keyN:keyL (d.push xb sx ka kc) d.ss.length=numsX sx:=by unfold keyL; rw [push_new]
theorem push_sum {i:Nat} (hi:i < d.ss.length):sumsD (d.push xb sx ka kc) i=sumsD d i:=by unfold sumsD; rw [push_key hi]
theorem push_sumN:sumsD (d.push xb sx ka kc) d.ss.length=sumL (numsX sx):=by unfold sumsD; rw [push_keyN]
theorem push_before:beforeD (d.push xb sx ka kc)=beforeD d++[lastS (sumsD d) (sumL (numsX sx)) d.ss.length]:=by
 unfold beforeD
 rw [push_len,List.range_succ,List.map_append]
 congr 1
 ·refine List.map_congr_left fun i hi=>?_
  have hi':i < d.ss.length:=by simpa using hi
  rw [push_sum hi',last_congr i (fun j hj=>push_sum (by omega))]
 ·simp only [List.map_cons,List.map_nil]
  rw [push_sumN,last_congr d.ss.length (fun j hj=>push_sum hj)]
theorem push_heads {h:Nat} (hh:sumL (numsX sx)=h):headsD (d.push xb sx ka kc)=(headsD d).set h (d.ss.length:Nat):=by
 have hlt:h < 4096:=by rw [← hh]; exact sumL_lt _
 unfold headsD
 refine List.ext_getElem? fun i=>?_
 rw [List.getElem?_set,List.getElem?_map,List.getElem?_map]
 by_cases hi:i < 4096
 ·rw [List.getElem?_range hi]
  by_cases he:h=i
  ·subst he
   rw [if_pos rfl,if_pos (by simpa using hlt),push_len]
   show some (lastS _ h (d.ss.length+1))=_
   unfold lastS
   rw [if_pos (by rw [push_sumN]; exact hh)]
  ·rw [if_neg he,push_len]
   show some (lastS _ i (d.ss.length+1))=some _
   rw [show lastS (sumsD (d.push xb sx ka kc)) i (d.ss.length+1)=lastS (sumsD (d.push xb sx ka kc)) i d.ss.length by
    conv=>lhs; unfold lastS
    rw [if_neg (by rw [push_sumN,hh]; exact he)],last_congr d.ss.length (fun j hj=>push_sum hj)]
 ·rw [List.getElem?_eq_none (by simpa using Nat.le_of_not_lt hi)]
  have hne:¬ h=i:=by omega
  rw [if_neg hne]
  rfl
theorem push_kv {i:Nat} (hk:d.ks.length=d.ss.length) (hi:i < d.ss.length):keyV (d.push xb sx ka kc) i=keyV d i:=by
 unfold keyV
 rw [push_key hi]
 have e:(d.push xb sx ka kc).ks.getD i default=d.ks.getD i default:=by
  show (d.ks++[(ka,kc)]).getD i default=_
  simp [List.getD,List.getElem?_append_left (show i < d.ks.length by omega)]
 rw [e]
theorem push_kvN (hk:d.ks.length=d.ss.length):keyV (d.push xb sx ka kc) d.ss.length=.slice ka (numsX sx).length kc:=by
 unfold keyV
 rw [push_keyN]
 have e:(d.push xb sx ka kc).ks.getD d.ss.length default=(ka,kc):=by
  show (d.ks++[(ka,kc)]).getD d.ss.length default=_
  rw [← hk]
  simp [List.getD]
 rw [e]
theorem push_kvs (hk:d.ks.length=d.ss.length):(List.range (d.push xb sx ka kc).ss.length).map (keyV (d.push xb sx ka kc))=(List.range d.ss.length).map (keyV d)++[.slice ka (numsX sx).length kc]:=by
 rw [push_len,List.range_succ,List.map_append]
 congr 1
 ·exact List.map_congr_left fun i hi=>push_kv hk (by simpa using hi)
 ·simp only [List.map_cons,List.map_nil]
  rw [push_kvN hk]
end
end
end Go.Proofs.YtelckcpjmekgcacGreatDoor
