import Derived.Test.YtelckcpjmekgcacGreatDoorTable
import Derived.Deep.RegionHeld3
import Derived.Lib.SmallJoins
import Derived.Deep.AppendSrc
namespace Go.Proofs.YtelckcpjmekgcacGreatDoor
set_option maxHeartbeats 1600000
set_option maxRecDepth 100000
section
open Go.RowKit
theorem zeroShape (w:World):(zeroValue 145).run Tryz.prog w=.ok (.agg #[.string ⟨#[]⟩,.int .i64 0,.int .i64 0,.int .i64 0]) w:=by kernel_rfl
theorem heap_two (w:World) (a b:Obj) (mb:Nat) (o:Obj) (h:w.heap[mb]? = some o):((w.alloc a).alloc b).heap[mb]? = some o:=by
 have hl:mb < w.heap.size:=by
  rcases Nat.lt_or_ge mb w.heap.size with h1 | h1
  ·exact h1
  ·rw [Array.getElem?_eq_none h1] at h; cases h
 rw [Below.heap_alloc _ _ _ (by simp; omega),Below.heap_alloc _ _ _ hl]; exact h
theorem checkOrder_no (mb:Nat) (rg wd lk sz op a b c:Int) (ho:op < 1∨18 < op) (w:World) (hm:w.heap[mb]? = some (.map shapesArr 18)) :
  Calls Tryz.prog 41 #[ints4 op a b c,.map (some mb),ints6 1 rg wd lk (sz+1) 0] w fun e w'=>e=.returned (.int .i64 2)∧Below w.heap.size w w':=by
 have hl:=run_look_no Tryz.underlying85 Tryz.underlying3 _ mb 18 shapesArr op _ (heap_two w (.cells #[.int .i64 op,.int .i64 a,.int .i64 b,.int .i64 c] 34) (.cells #[.int .i64 1,.int .i64 rg,.int .i64 wd,.int .i64 lk,.int .i64 (sz+1),.int .i64 0] 88) mb _ hm) (zeroShape _) (find_out ho)
 clear hm
 go_enter Tryz.func41,Tryz.ntmps41
 go_wp2
 go_ret
 exact ⟨rfl,(((Below.refl _ _).alloc (Nat.le_refl _) _).alloc (by simp) _).alloc (by simp; omega) _⟩
theorem checkOrder_yes (mb:Nat) (rg wd lk sz op a b c x y z:Int) (j:Nat) (hk:kd op=some (x,y,z)) (hf:Instr.findNow (.int .i64) (.int .i64 op) shapesArr.toList 0=some (some (j,.agg #[.string (nm op),.int .i64 x,.int .i64 y,.int .i64 z]))) (r:Int) (HR:Hid (r=if okN rg wd lk sz x a && okN rg wd lk sz y b && okN rg wd lk sz z c then 0 else 3)) (w:World) (hm:w.heap[mb]? = some (.map shapesArr 18)) :
  Calls Tryz.prog 41 #[ints4 op a b c,.map (some mb),ints6 1 rg wd lk (sz+1) 0] w fun e w'=>e=.returned (.int .i64 r)∧Below w.heap.size w w':=by
 have hl:=run_look Tryz.underlying85 Tryz.underlying3 _ mb 18 shapesArr op j _ (heap_two w (.cells #[.int .i64 op,.int .i64 a,.int .i64 b,.int .i64 c] 34) (.cells #[.int .i64 1,.int .i64 rg,.int .i64 wd,.int .i64 lk,.int .i64 (sz+1),.int .i64 0] 88) mb _ hm) hf
 obtain ⟨hx,hy,hz⟩:=kd_range hk
 clear hm hf hk
 have i0:∀ w,(Instr.index 148 (.agg #[.int .i64 a,.int .i64 b,.int .i64 c]) (.int .i64 0)).run Tryz.prog w=.ok (.int .i64 a) w:=fun _=>by kernel_rfl
 have i1:∀ w,(Instr.index 148 (.agg #[.int .i64 a,.int .i64 b,.int .i64 c]) (.int .i64 1)).run Tryz.prog w=.ok (.int .i64 b) w:=fun _=>by kernel_rfl
 have i2:∀ w,(Instr.index 148 (.agg #[.int .i64 a,.int .i64 b,.int .i64 c]) (.int .i64 2)).run Tryz.prog w=.ok (.int .i64 c) w:=fun _=>by kernel_rfl
 go_enter Tryz.func41,Tryz.ntmps41
 go_wp2_with (first | (go_at_call 72; refine (numbersOf_any _ _ _ _ _).mono ?_; rintro e w1 ⟨rfl,hb1⟩))
 have hz1:w.heap.size+3≤w1.heap.size:=by have:=hb1.size; simp at this; omega
 have l0:w1.cell? ⟨w.heap.size+1,0,none⟩=some (.int .i64 1):=(hb1.cell (p:=⟨w.heap.size+1,0,none⟩) (by simp)).trans (by go_simp)
 have l1:w1.cell? ⟨w.heap.size+1,1,none⟩=some (.int .i64 rg):=(hb1.cell (p:=⟨w.heap.size+1,1,none⟩) (by simp)).trans (by go_simp)
 have l2:w1.cell? ⟨w.heap.size+1,2,none⟩=some (.int .i64 wd):=(hb1.cell (p:=⟨w.heap.size+1,2,none⟩) (by simp)).trans (by go_simp)
 have l3:w1.cell? ⟨w.heap.size+1,3,none⟩=some (.int .i64 lk):=(hb1.cell (p:=⟨w.heap.size+1,3,none⟩) (by simp)).trans (by go_simp)
 have l4:w1.cell? ⟨w.heap.size+1,4,none⟩=some (.int .i64 (sz+1)):=(hb1.cell (p:=⟨w.heap.size+1,4,none⟩) (by simp)).trans (by go_simp)
 have l5:w1.cell? ⟨w.heap.size+1,5,none⟩=some (.int .i64 0):=(hb1.cell (p:=⟨w.heap.size+1,5,none⟩) (by simp)).trans (by go_simp)
 have s1:w1.cell? ⟨w.heap.size+1+1,1,none⟩=some (.int .i64 x):=(hb1.cell (p:=⟨w.heap.size+1+1,1,none⟩) (by simp)).trans (by go_simp)
 have s2:w1.cell? ⟨w.heap.size+1+1,2,none⟩=some (.int .i64 y):=(hb1.cell (p:=⟨w.heap.size+1+1,2,none⟩) (by simp)).trans (by go_simp)
 have s3:w1.cell? ⟨w.heap.size+1+1,3,none⟩=some (.int .i64 z):=(hb1.cell (p:=⟨w.heap.size+1+1,3,none⟩) (by simp)).trans (by go_simp)
 have HB:Below w.heap.size w w1:=(((((Below.refl _ _).alloc (Nat.le_refl _) _).alloc (by simp) _).alloc (by simp; omega) _).trans (hb1.mono (by simp; omega)))
 clear hb1 hl
 go_loopw [22] (fun i wr=>∃ k:Int,(0≤k∧k≤3)∧i=.int .i64 k∧Below w1.heap.size w1 wr∧(0 < k→okN rg wd lk sz x a=true)∧(1 < k→okN rg wd lk sz y b=true)∧(2 < k→okN rg wd lk sz z c=true)) (fun i _=>3 - (intOf i).toNat)
 case atStart=>exact ⟨0,by omega,rfl,Below.refl _ _,by omega,by omega,by omega⟩
 case round =>
  obtain ⟨k,hk,rfl,hbr,ha,hb',hc'⟩:=hrel
  have hc:=(fun b o (h:b < w1.heap.size)=>hbr.cell (p:=⟨b,o,none⟩) h)
  rw [← hc _ _ (by omega)] at l0 l1 l2 l3 l4 l5 s1 s2 s3
  clear hc
  have hz3:w.heap.size+1 < wr.heap.size:=by have:=hbr.size; omega
  have hz4:w.heap.size+1+1 < wr.heap.size:=by have:=hbr.size; omega
  rcases (by omega:k=0∨k=1∨k=2∨k=3) with rfl | rfl | rfl | rfl
  ·by_cases hok:okN rg wd lk sz x a=true
   ·go_wp2
    go_region_held3 (fun w'=>w'.cell? ⟨w.heap.size+1,0,none⟩=some (.int .i64 1)∧w'.cell? ⟨w.heap.size+1,1,none⟩=some (.int .i64 rg)∧w'.cell? ⟨w.heap.size+1,2,none⟩=some (.int .i64 wd)∧w'.cell? ⟨w.heap.size+1,3,none⟩=some (.int .i64 lk)∧w'.cell? ⟨w.heap.size+1,4,none⟩=some (.int .i64 (sz+1))∧w'.cell? ⟨w.heap.size+1,5,none⟩=some (.int .i64 0)∧w'.cell? ⟨w.heap.size+1+1,1,none⟩=some (.int .i64 x)) (go_keep)
     (first | (go_at_call 73; refine (allow_any rg wd lk sz x a hx _).mono ?_; rintro e w2 ⟨rfl,hb2⟩; have hc2:=fun b o (h:b < wr.heap.size)=>hb2.cell (p:=⟨b,o,none⟩) h))
    go_wp2
    go_roundw
    case rel=>exact ⟨1,by omega,by go_num,hbr.drew.trans (hb2.mono hbr.size),fun _=>hok,fun h=>absurd h (by omega),fun h=>absurd h (by omega)⟩
    case measure=>simp [intOf]
   ·have hno:okN rg wd lk sz x a=false:=by simpa using hok
    clear hok
    go_wp2
    go_region_held3 (fun w'=>w'.cell? ⟨w.heap.size+1,0,none⟩=some (.int .i64 1)∧w'.cell? ⟨w.heap.size+1,1,none⟩=some (.int .i64 rg)∧w'.cell? ⟨w.heap.size+1,2,none⟩=some (.int .i64 wd)∧w'.cell? ⟨w.heap.size+1,3,none⟩=some (.int .i64 lk)∧w'.cell? ⟨w.heap.size+1,4,none⟩=some (.int .i64 (sz+1))∧w'.cell? ⟨w.heap.size+1,5,none⟩=some (.int .i64 0)∧w'.cell? ⟨w.heap.size+1+1,1,none⟩=some (.int .i64 x)) (go_keep)
     (first | (go_at_call 73; refine (allow_any rg wd lk sz x a hx _).mono ?_; rintro e w2 ⟨rfl,hb2⟩; have hc2:=fun b o (h:b < wr.heap.size)=>hb2.cell (p:=⟨b,o,none⟩) h))
    go_wp2
    all_goals go_ret
    all_goals exact ⟨ret_int (by rw [HR.out]; simp [hno]),HB.trans ((hbr.mono HB.size).drew.trans (hb2.mono (Nat.le_trans HB.size hbr.size)))⟩
  ·by_cases hok:okN rg wd lk sz y b=true
   ·go_wp2
    go_region_held3 (fun w'=>w'.cell? ⟨w.heap.size+1,0,none⟩=some (.int .i64 1)∧w'.cell? ⟨w.heap.size+1,1,none⟩=some (.int .i64 rg)∧w'.cell? ⟨w.heap.size+1,2,none⟩=some (.int .i64 wd)∧w'.cell? ⟨w.heap.size+1,3,none⟩=some (.int .i64 lk)∧w'.cell? ⟨w.heap.size+1,4,none⟩=some (.int .i64 (sz+1))∧w'.cell? ⟨w.heap.size+1,5,none⟩=some (.int .i64 0)∧w'.cell? ⟨w.heap.size+1+1,2,none⟩=some (.int .i64 y)) (go_keep)
     (first | (go_at_call 73; refine (allow_any rg wd lk sz y b hy _).mono ?_; rintro e w2 ⟨rfl,hb2⟩; have hc2:=fun b o (h:b < wr.heap.size)=>hb2.cell (p:=⟨b,o,none⟩) h))
    go_wp2
    go_roundw
    case rel=>exact ⟨2,by omega,by go_num,hbr.drew.trans (hb2.mono hbr.size),fun _=>ha (by omega),fun _=>hok,fun h=>absurd h (by omega)⟩
    case measure=>simp [intOf]
   ·have hno:okN rg wd lk sz y b=false:=by simpa using hok
    clear hok
    go_wp2
    go_region_held3 (fun w'=>w'.cell? ⟨w.heap.size+1,0,none⟩=some (.int .i64 1)∧w'.cell? ⟨w.heap.size+1,1,none⟩=some (.int .i64 rg)∧w'.cell? ⟨w.heap.size+1,2,none⟩=some (.int .i64 wd)∧w'.cell? ⟨w.heap.size+1,3,none⟩=some (.int .i64 lk)∧w'.cell? ⟨w.heap.size+1,4,none⟩=some (.int .i64 (sz+1))∧w'.cell? ⟨w.heap.size+1,5,none⟩=some (.int .i64 0)∧w'.cell? ⟨w.heap.size+1+1,2,none⟩=some (.int .i64 y)) (go_keep)
     (first | (go_at_call 73; refine (allow_any rg wd lk sz y b hy _).mono ?_; rintro e w2 ⟨rfl,hb2⟩; have hc2:=fun b o (h:b < wr.heap.size)=>hb2.cell (p:=⟨b,o,none⟩) h))
    go_wp2
    all_goals go_ret
    all_goals exact ⟨ret_int (by rw [HR.out]; simp [hno]),HB.trans ((hbr.mono HB.size).drew.trans (hb2.mono (Nat.le_trans HB.size hbr.size)))⟩
  ·by_cases hok:okN rg wd lk sz z c=true
   ·go_wp2
    go_region_held3 (fun w'=>w'.cell? ⟨w.heap.size+1,0,none⟩=some (.int .i64 1)∧w'.cell? ⟨w.heap.size+1,1,none⟩=some (.int .i64 rg)∧w'.cell? ⟨w.heap.size+1,2,none⟩=some (.int .i64 wd)∧w'.cell? ⟨w.heap.size+1,3,none⟩=some (.int .i64 lk)∧w'.cell? ⟨w.heap.size+1,4,none⟩=some (.int .i64 (sz+1))∧w'.cell? ⟨w.heap.size+1,5,none⟩=some (.int .i64 0)∧w'.cell? ⟨w.heap.size+1+1,3,none⟩=some (.int .i64 z)) (go_keep)
     (first | (go_at_call 73; refine (allow_any rg wd lk sz z c hz _).mono ?_; rintro e w2 ⟨rfl,hb2⟩; have hc2:=fun b o (h:b < wr.heap.size)=>hb2.cell (p:=⟨b,o,none⟩) h))
    go_wp2
    go_roundw
    case rel=>exact ⟨3,by omega,by go_num,hbr.drew.trans (hb2.mono hbr.size),fun _=>ha (by omega),fun _=>hb' (by omega),fun _=>hok⟩
    case measure=>simp [intOf]
   ·have hno:okN rg wd lk sz z c=false:=by simpa using hok
    clear hok
    go_wp2
    go_region_held3 (fun w'=>w'.cell? ⟨w.heap.size+1,0,none⟩=some (.int .i64 1)∧w'.cell? ⟨w.heap.size+1,1,none⟩=some (.int .i64 rg)∧w'.cell? ⟨w.heap.size+1,2,none⟩=some (.int .i64 wd)∧w'.cell? ⟨w.heap.size+1,3,none⟩=some (.int .i64 lk)∧w'.cell? ⟨w.heap.size+1,4,none⟩=some (.int .i64 (sz+1))∧w'.cell? ⟨w.heap.size+1,5,none⟩=some (.int .i64 0)∧w'.cell? ⟨w.heap.size+1+1,3,none⟩=some (.int .i64 z)) (go_keep)
     (first | (go_at_call 73; refine (allow_any rg wd lk sz z c hz _).mono ?_; rintro e w2 ⟨rfl,hb2⟩; have hc2:=fun b o (h:b < wr.heap.size)=>hb2.cell (p:=⟨b,o,none⟩) h))
    go_wp2
    all_goals go_ret
    all_goals exact ⟨ret_int (by rw [HR.out]; simp [hno]),HB.trans ((hbr.mono HB.size).drew.trans (hb2.mono (Nat.le_trans HB.size hbr.size)))⟩
  ·have h1:=ha (by omega)
   have h2:=hb' (by omega)
   have h3:=hc' (by omega)
   clear ha hb' hc'
   go_wp2
   go_ret
   exact ⟨ret_int (by rw [HR.out]; simp [h1,h2,h3]),HB.trans (hbr.mono HB.size)⟩
theorem checkOrder_any (mb:Nat) (rg wd lk sz op a b c:Int) (w:World) (hm:w.heap[mb]? = some (.map shapesArr 18)) :
  Calls Tryz.prog 41 #[ints4 op a b c,.map (some mb),ints6 1 rg wd lk (sz+1) 0] w fun e w'=>e=.returned (.int .i64 (ordE rg wd lk sz op a b c))∧Below w.heap.size w w':=by
 by_cases h:op < 1∨18 < op
 ·have:=checkOrder_no mb rg wd lk sz op a b c h w hm
  simpa only [ordE,kd_out h] using this
 ·obtain ⟨j,x,y,z,hk,hf⟩:=find_in (op:=op) (by omega)
  have:=checkOrder_yes mb rg wd lk sz op a b c x y z j hk hf _ rfl w hm
  simpa only [ordE,hk] using this
end
section
open Go.RowKit
theorem lt_of_cell {w:World} {a:Addr} {v:Value} (h:w.cell? a=some v):a.block < w.heap.size:=by
 rcases Nat.lt_or_ge a.block w.heap.size with h1 | h1
 ·exact h1
 ·unfold World.cell? at h
  rw [Array.getElem?_eq_none h1] at h; cases h
structure PIn (w:World) (ca:Option Addr) (n:Nat) (A:Nat→Option Addr) (L C:Nat→Nat) (X:Nat→Nat→Nat→Int):Prop where
 code:∀ t,t < n→∃ b o,ca=some ⟨b,o,none⟩∧w.cell? ⟨b,o+t,none⟩=some (.slice (A t) (L t) (C t))
 ord:∀ t i,t < n→i < L t→∃ b o,A t=some ⟨b,o,none⟩∧w.cell? ⟨b,o+i*4,none⟩=some (.int .i64 (X t i 0))∧w.cell? ⟨b,o+i*4+1,none⟩=some (.int .i64 (X t i 1)) ∧
  w.cell? ⟨b,o+i*4+2,none⟩=some (.int .i64 (X t i 2))∧w.cell? ⟨b,o+i*4+3,none⟩=some (.int .i64 (X t i 3))
 len:∀ t,t < n→L t≤9223372036854775807
 num:n≤9223372036854775807
theorem PIn.below {w w':World} {ca:Option Addr} {n:Nat} {A:Nat→Option Addr} {L C:Nat→Nat} {X:Nat→Nat→Nat→Int} (h:PIn w ca n A L C X) (hb:Below w.heap.size w w'):PIn w' ca n A L C X where
 code t ht:=by
  obtain ⟨b,o,hc,h1⟩:=h.code t ht
  exact ⟨b,o,hc,(hb.cell (lt_of_cell h1)).trans h1⟩
 ord t i ht hi:=by
  obtain ⟨b,o,hc,h0,h1,h2,h3⟩:=h.ord t i ht hi
  exact ⟨b,o,hc,(hb.cell (lt_of_cell h0)).trans h0,(hb.cell (lt_of_cell h1)).trans h1,(hb.cell (lt_of_cell h2)).trans h2,(hb.cell (lt_of_cell h3)).trans h3⟩
 len:=h.len
 num:=h.num
structure Boxes (w:World) (B:Nat) (ca:Option Addr) (n cc:Nat) (wa:Option Addr) (m wc:Nat) (lk rg:Int):Prop where
 size:B+2≤w.heap.size
 p0:w.cell? ⟨B,0,none⟩=some (.slice ca n cc)
 p1:w.cell? ⟨B,1,none⟩=some (.slice wa m wc)
 p2:w.cell? ⟨B,2,none⟩=some (.int .i64 lk)
 p3:w.cell? ⟨B,3,none⟩=some (.int .i64 rg)
 r0:w.cell? ⟨B+1,0,none⟩=some (.int .i64 0)
 r1:w.cell? ⟨B+1,1,none⟩=some (.int .i64 0)
 r2:w.cell? ⟨B+1,2,none⟩=some (.int .i64 0)
 f0:w.frozen? ⟨B+1,0,none⟩=false
 f1:w.frozen? ⟨B+1,1,none⟩=false
 f2:w.frozen? ⟨B+1,2,none⟩=false
theorem Boxes.below {w w':World} {B:Nat} {ca:Option Addr} {n cc:Nat} {wa:Option Addr} {m wc:Nat} {lk rg:Int} (h:Boxes w B ca n cc wa m wc lk rg) (hb:Below w.heap.size w w'):Boxes w' B ca n cc wa m wc lk rg :=
 ⟨Nat.le_trans h.size hb.size,(hb.cell (lt_of_cell h.p0)).trans h.p0,(hb.cell (lt_of_cell h.p1)).trans h.p1,(hb.cell (lt_of_cell h.p2)).trans h.p2,(hb.cell (lt_of_cell h.p3)).trans h.p3,
  (hb.cell (lt_of_cell h.r0)).trans h.r0,(hb.cell (lt_of_cell h.r1)).trans h.r1,(hb.cell (lt_of_cell h.r2)).trans h.r2,
  (hb.frozen (lt_of_cell h.r0)).trans h.f0,(hb.frozen (lt_of_cell h.r1)).trans h.f1,(hb.frozen (lt_of_cell h.r2)).trans h.f2⟩
theorem boxes_made (w:World) (ca:Option Addr) (n cc:Nat) (wa:Option Addr) (m wc:Nat) (lk rg:Int) (t u:TypeId) :
  Boxes ((w.alloc (.cells #[.slice ca n cc,.slice wa m wc,.int .i64 lk,.int .i64 rg] t)).alloc (.cells #[.int .i64 0,.int .i64 0,.int .i64 0] u)) w.heap.size ca n cc wa m wc lk rg:=by
 constructor <;> go_simp
end
section
open Go.RowKit
theorem owns_below2 {w w':World} {base:Nat} {e:TypeId} {size:Nat} {v:Value} {n:Nat} {xs:List Value} (h:w.ownsRow base e size v n xs) (hb:Below w.heap.size w w'):w'.ownsRow base e size v n xs:=by
 refine ⟨h.1,?_⟩
 rcases h.2 with h0 | ⟨g,cap,cur,hv,hg,hh,r⟩
 ·exact Or.inl h0
 ·have hlt:g < w.heap.size:=by
   rcases Nat.lt_or_ge g w.heap.size with h1 | h1
   ·exact h1
   ·rw [Array.getElem?_eq_none h1] at hh; cases hh
  exact Or.inr ⟨g,cap,cur,hv,hg,by rw [hb.block g hlt]; exact hh,r⟩
abbrev I4:=Int × Int × Int × Int
def cells4 (x:I4):List Value:=[.int .i64 x.1,.int .i64 x.2.1,.int .i64 x.2.2.1,.int .i64 x.2.2.2]
def cellsT (l:List I4):List Value:=l.flatMap cells4
theorem cellsT_len (l:List I4):(cellsT l).length=l.length*4:=by
 induction l with
 | nil=>rfl
 | cons x r ih=>simp [cellsT,cells4] at ih ⊢; omega
theorem cellsT_snoc (l:List I4) (x:I4):cellsT (l++[x])=cellsT l++cells4 x:=by simp [cellsT]
theorem lt_of_owns {w:World} {B:Nat} {e:TypeId} {size:Nat} {v:Value} {n:Nat} {xs:List Value} (h:w.ownsRow B e size v n xs) {g:Nat} (hg:v.ownBlock=some g):g < w.heap.size:=(h.lt g hg).2
theorem owns_far {w:World} {B:Nat} {e:TypeId} {size:Nat} {v:Value} {n:Nat} {xs:List Value} (h:w.ownsRow B e size v n xs) {a:Addr} {u:Value} (hne:v.ownBlock≠some a.block):(w.setCell a u).ownsRow B e size v n xs:=by
 refine ⟨h.1,?_⟩
 rcases h.2 with h0 | ⟨g,cap,cur,hv,hg,hh,r⟩
 ·exact Or.inl h0
 ·refine Or.inr ⟨g,cap,cur,hv,hg,?_,r⟩
  rw [Below.heap_setCell _ _ _ _ (fun e=>hne (by rw [hv]; simp [Value.ownBlock,e]))]
  exact hh
section
variable {w w':World} {B:Nat} {cv wv:Value} {tv:List Value} {ths:List (List I4)} {wds:List Int}
end
end
section
open Go.RowKit
def ordAt (X:Nat→Nat→Nat→Int) (t i:Nat):I4:=(X t i 0,X t i 1,X t i 2,X t i 3)
def nth4 (x:I4) (q:Nat):Int:=if q=0 then x.1 else if q=1 then x.2.1 else if q=2 then x.2.2.1 else x.2.2.2
def fenceI:I4:=(12,0,0,0)
def bWith (w:Bool) (x:I4):List I4:=if w then [x,fenceI] else [x]
def ledO (pl:Nat→Nat) (x:I4):I4:=(x.1,(if x.1=14 then (pl x.2.1.toNat:Int) else x.2.1),(if x.1=15 then (pl x.2.2.1.toNat:Int) else x.2.2.1),x.2.2.2)
def plR (b:Nat→List I4):Nat→Nat
 | 0=>0
 | i+1=>plR b i+(b i).length
def rawR (b:Nat→List I4):Nat→List I4
 | 0=>[]
 | i+1=>rawR b i++b i
def codeR (b:Nat→List I4) (L:Nat):List I4:=(rawR b L).map (ledO (plR b))
section
variable {b:Nat→List I4}
theorem raw_len:∀ i,(rawR b i).length=plR b i
 | 0=>rfl
 | i+1=>by rw [rawR,List.length_append,raw_len i,plR]
theorem code_len (L:Nat):(codeR b L).length=plR b L:=by rw [codeR,List.length_map,raw_len]
theorem pl_mono {i j:Nat} (h:i≤j):plR b i≤plR b j:=by
 induction h with
 | refl=>exact Nat.le_refl _
 | step _ ih=>exact Nat.le_trans ih (Nat.le_add_right _ _)
theorem raw_at {i k:Nat} (hk:k < (b i).length):∀ {L:Nat},i < L→(rawR b L)[plR b i+k]? = (b i)[k]?
 | 0,h=>absurd h (by omega)
 | L+1,h=>by
  rw [rawR]
  by_cases e:i=L
  ·subst e
   rw [List.getElem?_append_right (by rw [raw_len]; omega),raw_len]
   congr 1
   omega
  ·have h1:plR b (i+1)≤plR b L:=pl_mono (by omega)
   rw [plR] at h1
   rw [List.getElem?_append_left (by rw [raw_len]; omega)]
   exact raw_at hk (by omega)
theorem raw_find:∀ {L j:Nat},j < plR b L→∃ i k,i < L∧k < (b i).length∧j=plR b i+k
 | 0,j,h=>absurd h (by simp [plR])
 | L+1,j,h=>by
  rw [plR] at h
  by_cases e:j < plR b L
  ·obtain ⟨i,k,h1,h2,h3⟩:=raw_find e
   exact ⟨i,k,by omega,h2,h3⟩
  ·exact ⟨L,j - plR b L,by omega,by omega,by omega⟩
theorem code_at {i k L:Nat} (hk:k < (b i).length) (hi:i < L) (d:I4):(codeR b L).getD (plR b i+k) d=ledO (plR b) ((b i).getD k d):=by
 have h:=raw_at hk hi
 rw [List.getD_eq_getElem?_getD,codeR,List.getElem?_map,h,List.getElem?_eq_getElem hk]
 simp [List.getD,hk]
end
end
section
open Go.RowKit
theorem cell_up {w:World} {a:Addr} {v:Value} (h:w.cell? a=some v) (o:Obj):(w.alloc o).cell? a=some v:=(World.cell?_alloc_lt _ _ _ (lt_of_cell h)).trans h
def intsV (l:List Int):List Value:=l.map (Value.int .i64)
theorem intsV_at {l:List Int} {i:Nat} (h:i < l.length):(intsV l)[i]? = some (.int .i64 (l.getD i 0)):=by
 unfold intsV
 rw [List.getElem?_map,List.getElem?_eq_getElem h]
 simp [List.getD,List.getElem?_eq_getElem h]
theorem intsV_set (l:List Int) (i:Nat) (x:Int):intsV (l.set i x)=(intsV l).set i (.int .i64 x):=by simp [intsV,List.map_set]
theorem intsV_len (l:List Int):(intsV l).length=l.length:=by simp [intsV]
def AppS (ts:Array TypeId) (ty:TypeId) (args:Array Value):Sem Value:=Builtin.append_ ts ty args
theorem appS_eq (ts:Array TypeId) (ty:TypeId) (args:Array Value):Builtin.append_ ts ty args=AppS ts ty args:=rfl
theorem info_is {e:TypeId} {z:Value} {size bytes:Nat} (h:(Tryz.prog.info? e).map (fun i=>(i.zero,i.size,i.bytes))=some (some z,size,bytes)):∃ i,Tryz.prog.info? e=some i∧i.zero=some z∧i.size=size∧i.bytes=bytes:=by
 cases hi:Tryz.prog.info? e with
 | none=>rw [hi] at h; simp at h
 | some i=>rw [hi] at h; simp at h; exact ⟨i,rfl,h.1,h.2.1,h.2.2⟩
theorem app_row {T e:TypeId} {z:Value} {size bytes:Nat} (ht:Tryz.prog.underlying T=some (.slice e)) (hinfo:(Tryz.prog.info? e).map (fun i=>(i.zero,i.size,i.bytes))=some (some z,size,bytes)) (hzs:z.cells.size=size) (hsz:0 < size)
  {w W:World} {B:Nat} {v:Value} {n:Nat} {xs:List Value} (hown:w.ownsRow B e size v n xs) (hb:Below w.heap.size w W) (hB:B≤w.heap.size) (m:Nat) (news:Array Value) (hl:news.size=m*size) (h1:∀ u∈news.toList,u.oneCell'=true) (hm:0 < m) (h63:n+m≤1000000) (hby:bytes≤1000) :
  ∃ g cap w3,(AppS #[T,T] T #[v,.slice (some ⟨W.heap.size,0,none⟩) m m]).run Tryz.prog (W.alloc (.cells news e))=.ok (.slice (some ⟨g,0,none⟩) (n+m) cap) w3∧w3.ownsRow B e size (.slice (some ⟨g,0,none⟩) (n+m) cap) (n+m) (xs++news.toList)∧(W.alloc (.cells news e)).grownBy w3 v.ownBlock∧(v.ownBlock=some g∨g=W.heap.size+1):=by
 obtain ⟨i,hi,hz0,hz1,hz2⟩:=info_is hinfo
 have hown':(W.alloc (.cells news e)).ownsRow B e size v n xs:=(fam_keeps hown (fun g hg=>hb.block g (hown.lt g hg).2)).alloc _
 have hbs:=hb.size
 obtain ⟨g,cap,w3,r1,r2,r3,r4,_⟩:=run_append_lies (P:=Tryz.prog) (W.alloc (.cells news e)) T T B e i z size bytes ht hi hz0 hz1 hz2 hzs hsz v n xs hown' ⟨W.heap.size,0,none⟩ m m news.toList (by simpa using hl) (World.news_of_block (cs:=news) (t:=e) (fr:=(0,0)) (heap_alloc_new W _)) h1 hm (by unfold maxLen; omega) (by
  have:(n+m)*bytes≤1000000*1000:=Nat.mul_le_mul h63 hby
  omega) (by simp; omega) (W.heap.size+1) (by simp)
 exact ⟨g,cap,w3,r1,r2,r3,r4⟩
theorem infoI:(Tryz.prog.info? 3).map (fun i=>(i.zero,i.size,i.bytes))=some (some (.int .i64 0),1,8):=by kernel_rfl
def SIs (w:World) (a:Option Addr) (l:List Int):Prop:=∀ i,i < l.length→∃ b o,a=some ⟨b,o,none⟩∧w.cell? ⟨b,o+i,none⟩=some (.int .i64 (l.getD i 0))
theorem SIs.below {w w1:World} {a:Option Addr} {l:List Int} (h:SIs w a l) (hb:Below w.heap.size w w1):SIs w1 a l:=fun i hi=>by
 obtain ⟨b,o,e,h1⟩:=h i hi
 exact ⟨b,o,e,(hb.cell (lt_of_cell h1)).trans h1⟩
theorem intsV_one (l:List Int):∀ u∈intsV l,u.oneCell'=true:=fun u hu=>by
 simp only [intsV,List.mem_map] at hu
 obtain ⟨x,_,rfl⟩:=hu
 rfl
theorem own_low {w:World} {B B':Nat} {e:TypeId} {size:Nat} {v:Value} {n:Nat} {xs:List Value} (h:w.ownsRow B e size v n xs) (hB:B'≤B):w.ownsRow B' e size v n xs:=by
 refine ⟨h.1,?_⟩
 rcases h.2 with h0 | ⟨g,cap,cur,hv,hg,r⟩
 ·exact Or.inl h0
 ·exact Or.inr ⟨g,cap,cur,hv,Nat.le_trans hB hg,r⟩
theorem app_src (W:World) (B:Nat) (hB:B≤W.heap.size) (sa:Option Addr) (l:List Int) (c:Nat) (hsrc:SIs W sa l) (hl:l.length*8≤140737488355328) :
  ∃ g cap w3,(AppS #[23,23] 23 #[.slice (some ⟨W.heap.size,0,none⟩) 0 0,.slice sa l.length c]).run Tryz.prog (W.alloc (.cells #[] 3))=.ok (.slice (some ⟨g,0,none⟩) l.length cap) w3∧w3.ownsRow B 3 1 (.slice (some ⟨g,0,none⟩) l.length cap) l.length (intsV l)∧(W.alloc (.cells #[] 3)).grownBy w3 (some W.heap.size)∧W.heap.size≤g∧g < w3.heap.size:=by
 obtain ⟨i,hi,hz0,hz1,hz2⟩:=info_is infoI
 have hown:=World.ownsRow_made (base:=B) (e:=3) (size:=1) W #[] 0 hB (by decide) rfl
 cases l with
 | nil =>
  refine ⟨W.heap.size,0,W.alloc (.cells #[] 3),?_,hown,⟨rfl,rfl,rfl,Nat.le_refl _,fun _ _ _=>rfl⟩,Nat.le_refl _,by simp⟩
  have hs:Src Tryz.prog i.size 23 (.slice sa 0 c) 0 [] (W.alloc (.cells #[] 3)):=by
   cases sa with
   | none=>exact Src.ofNil _ Tryz.underlying23 c
   | some a=>exact Src.ofSlice _ Tryz.underlying23 a 0 c [] (by simp) (fun j u h=>by simp at h) (fun u h=>by cases h)
  have:=run_append_room_src (P:=Tryz.prog) (W.alloc (.cells #[] 3)) 23 23 23 3 i Tryz.underlying23 hi W.heap.size 0 0 0 (.slice sa 0 c) 0 [] hs (Nat.le_refl _) (fun j h=>by simp at h) (fun j h=>by simp at h)
  exact this
 | cons x r =>
  obtain ⟨b,o,rfl,_⟩:=hsrc 0 (by simp)
  have hnews:∀ j u,(intsV (x::r))[j]? = some u→(W.alloc (.cells #[] 3)).cell? ((⟨b,o,none⟩:Addr).add j)=some u:=fun j u hu=>by
   have hj:j < (x::r).length:=by
    rcases Nat.lt_or_ge j (x::r).length with h | h
    ·exact h
    ·rw [List.getElem?_eq_none (by rw [intsV_len]; exact h)] at hu; cases hu
   obtain ⟨b',o',e,h1⟩:=hsrc j hj
   simp only [Option.some.injEq,Addr.mk.injEq,and_true] at e
   obtain ⟨rfl,rfl⟩:=e
   have hadd:(⟨b,o,none⟩:Addr).add j=⟨b,o+j,none⟩:=by unfold Addr.add; split <;> simp_all
   rw [intsV_at hj] at hu
   rw [hadd,cell_up h1]
   exact hu
  obtain ⟨g,cap,w3,r1,r2,r3,r4,r5⟩:=run_append_lies (P:=Tryz.prog) (W.alloc (.cells #[] 3)) 23 23 B 3 i _ 1 8 Tryz.underlying23 hi hz0 hz1 hz2 rfl (by omega) _ 0 [] hown ⟨b,o,none⟩ (x::r).length c (intsV (x::r)) (by rw [intsV_len]; omega) hnews (intsV_one _) (by simp) (by unfold maxLen; omega) (by omega) (by simp; omega) (W.heap.size+1) (by simp)
  rw [Nat.zero_add] at r1 r2
  refine ⟨g,cap,w3,r1,r2,r3,?_,r5⟩
  rcases r4 with r4 | r4
  ·have:W.heap.size=g:=by simpa [Value.ownBlock] using r4
   omega
  ·omega
end
section
open Go.RowKit
def SrcL (w:World) (sa:Option Addr) (xs:List Value):Prop:=∀ j u,xs[j]? = some u→∃ b o,sa=some ⟨b,o,none⟩∧w.cell? ⟨b,o+j,none⟩=some u
theorem SrcL.below {w w':World} {sa:Option Addr} {xs:List Value} (h:SrcL w sa xs) (hb:Below w.heap.size w w'):SrcL w' sa xs:=fun j u hj=>by
 obtain ⟨b,o,e,h1⟩:=h j u hj
 exact ⟨b,o,e,(hb.cell (lt_of_cell h1)).trans h1⟩
theorem srcL_block {w:World} {g:Nat} {cs:Array Value} {e:TypeId} {fr:Nat × Nat} (h:w.heap[g]? = some (.cells cs e fr)):SrcL w (some ⟨g,0,none⟩) cs.toList:=fun j u hj=>by
 refine ⟨g,0,rfl,?_⟩
 have:=World.news_of_block (cs:=cs) (t:=e) (fr:=fr) h j u hj
 have hadd:(⟨g,0,none⟩:Addr).add j=⟨g,0+j,none⟩:=by unfold Addr.add; split <;> simp_all
 rw [hadd] at this
 exact this
theorem app_lie {T e:TypeId} {z:Value} {size bytes:Nat} (ht:Tryz.prog.underlying T=some (.slice e)) (hinfo:(Tryz.prog.info? e).map (fun i=>(i.zero,i.size,i.bytes))=some (some z,size,bytes)) (hzs:z.cells.size=size) (hsz:0 < size)
  {w:World} {B:Nat} {v:Value} {n:Nat} {xs:List Value} (hown:w.ownsRow B e size v n xs) (hB:B≤w.heap.size) (sa:Option Addr) (m c:Nat) (news:List Value) (hl:news.length=m*size) (hsrc:SrcL w sa news) (h1:∀ u∈news,u.oneCell'=true) (h63:n+m≤1000000) (hby:bytes≤1000) :
  ∃ v' w3,(AppS #[T,T] T #[v,.slice sa m c]).run Tryz.prog w=.ok v' w3∧w3.ownsRow B e size v' (n+m) (xs++news)∧w.grownBy w3 v.ownBlock∧(v'.ownBlock=v.ownBlock∨v'.ownBlock=some w.heap.size):=by
 obtain ⟨i,hi,hz0,hz1,hz2⟩:=info_is hinfo
 have hbig:(n+m)*bytes≤140737488355328:=by
  have:(n+m)*bytes≤1000000*1000:=Nat.mul_le_mul h63 hby
  omega
 cases sa with
 | some a =>
  have hnews:∀ j u,news[j]? = some u→w.cell? (a.add j)=some u:=fun j u hj=>by
   obtain ⟨b,o,ea,hc⟩:=hsrc j u hj
   simp only [Option.some.injEq] at ea
   subst ea
   have hadd:(⟨b,o,none⟩:Addr).add j=⟨b,o+j,none⟩:=by unfold Addr.add; split <;> simp_all
   rw [hadd]
   exact hc
  obtain ⟨v',w',r1,r2,r3,_,r5⟩:=run_append_own_at (P:=Tryz.prog) w B T T e i z size bytes ht hi hz0 hz1 hz2 hzs hsz v n xs hown a m c news hl hnews h1 (by unfold maxLen; omega) hbig hB
  exact ⟨v',w',r1,r2,r3,r5⟩
 | none =>
  have hnil:news=[]:=by
   cases news with
   | nil=>rfl
   | cons x r =>
    obtain ⟨b,o,ea,_⟩:=hsrc 0 x rfl
    cases ea
  subst hnil
  have hm:m=0:=by
   rcases Nat.eq_zero_or_pos m with h | h
   ·exact h
   ·have:0 < m*size:=Nat.mul_pos h hsz
    rw [← hl] at this
    cases this
  subst hm
  rw [List.append_nil,Nat.add_zero]
  refine ⟨v,w,?_,hown,⟨rfl,rfl,rfl,Nat.le_refl _,fun _ _ _=>rfl⟩,Or.inl rfl⟩
  have hs:Src Tryz.prog i.size T (.slice none 0 c) 0 [] w:=Src.ofNil _ ht c
  rcases hown.2 with ⟨rfl,rfl⟩ | ⟨g,cap,cur,rfl,hbg,hg,hnc,hcm,hcs,htake⟩
  ·show (Builtin.append_ #[T,T] T #[.slice none 0 0,.slice none 0 c]).run Tryz.prog w=_
   simp [Builtin.append_,run_underlying ht,sizeOf,typeInfo,hi,Builtin.lenOf,Builtin.firstCells]
  ·have:=run_append_room_src (P:=Tryz.prog) w T T T e i ht hi g 0 n cap (.slice none 0 c) 0 [] hs hnc (fun j h=>by simp at h) (fun j h=>by simp at h)
   exact this
theorem infoO:(Tryz.prog.info? 34).map (fun i=>(i.zero,i.size,i.bytes))=some (some (.agg #[.int .i64 0,.int .i64 0,.int .i64 0,.int .i64 0]),4,32):=by kernel_rfl
theorem infoOs:(Tryz.prog.info? 35).map (fun i=>(i.zero,i.size,i.bytes))=some (some nilV,1,24):=by kernel_rfl
theorem cells4_one (l:List I4):∀ u∈cellsT l,u.oneCell'=true:=fun u hu=>by
 unfold cellsT at hu
 rw [List.mem_flatMap] at hu
 obtain ⟨x,_,hx⟩:=hu
 simp only [cells4,List.mem_cons,List.not_mem_nil,or_false] at hx
 rcases hx with rfl | rfl | rfl | rfl <;> rfl
theorem cellsT_append (l r:List I4):cellsT (l++r)=cellsT l++cellsT r:=by simp [cellsT]
theorem cellsT_at:∀ {l:List I4} {i:Nat},i < l.length→∀ d,(cellsT l)[i*4]? = some (.int .i64 (l.getD i d).1)∧(cellsT l)[i*4+1]? = some (.int .i64 (l.getD i d).2.1)∧(cellsT l)[i*4+2]? = some (.int .i64 (l.getD i d).2.2.1)∧(cellsT l)[i*4+3]? = some (.int .i64 (l.getD i d).2.2.2)
 | [],i,h,_=>absurd h (Nat.not_lt_zero _)
 | x::l,0,_,_=>⟨rfl,rfl,rfl,rfl⟩
 | x::l,i+1,h,d=>by
  have:=cellsT_at (l:=l) (i:=i) (by simpa using h) d
  have e:∀ k,(cellsT (x::l))[(i+1)*4+k]? = (cellsT l)[i*4+k]? := fun k=>by
   rw [show (i+1)*4+k=(i*4+k)+4 by omega]
   rfl
  have e0:=e 0
  rw [Nat.add_zero,Nat.add_zero] at e0
  rw [e0,e 1,e 2,e 3]
  exact this
theorem cellsT_set:∀ {l:List I4} {i:Nat} {x:I4},i < l.length→((((cellsT l).set (i*4) (.int .i64 x.1)).set (i*4+1) (.int .i64 x.2.1)).set (i*4+2) (.int .i64 x.2.2.1)).set (i*4+3) (.int .i64 x.2.2.2)=cellsT (l.set i x)
 | [],i,_,h=>absurd h (Nat.not_lt_zero _)
 | y::l,0,x,_=>rfl
 | y::l,i+1,x,h=>by
  have:=cellsT_set (l:=l) (i:=i) (x:=x) (by simpa using h)
  have e:cellsT (y::l)=cells4 y++cellsT l:=rfl
  have e2:cellsT ((y::l).set (i+1) x)=cells4 y++cellsT (l.set i x):=rfl
  rw [e,e2,← this]
  have e3:∀ (r:List Value) k u,(cells4 y++r).set ((i+1)*4+k) u=cells4 y++r.set (i*4+k) u:=fun r k u=>by
   rw [show (i+1)*4+k=(i*4+k)+4 by omega]
   rfl
  have e4:=fun r u=>e3 r 0 u
  simp only [Nat.add_zero] at e4
  rw [e4,e3,e3,e3]
def OwnC (w:World) (B:Nat) (v:Value) (l:List I4):Prop:=w.ownsRow B 34 4 v l.length (cellsT l)
theorem OwnC.below {w w':World} {B:Nat} {v:Value} {l:List I4} (h:OwnC w B v l) (hb:Below w.heap.size w w'):OwnC w' B v l:=owns_below2 h hb
theorem app_code {w:World} {B:Nat} {v:Value} {l:List I4} (h:OwnC w B v l) (hB:B≤w.heap.size) (sa:Option Addr) (c:Nat) (r:List I4) (hs:SrcL w sa (cellsT r)) (hl:l.length+r.length≤1000000) :
  ∃ v' w3,(AppS #[35,35] 35 #[v,.slice sa r.length c]).run Tryz.prog w=.ok v' w3∧OwnC w3 B v' (l++r)∧w.grownBy w3 v.ownBlock∧(v'.ownBlock=v.ownBlock∨v'.ownBlock=some w.heap.size):=by
 obtain ⟨v',w3,h1,h2,h3,h4⟩:=app_lie (T:=35) Tryz.underlying35 infoO rfl (by omega) h hB sa r.length c (cellsT r) (cellsT_len r) hs (cells4_one r) hl (by omega)
 refine ⟨v',w3,h1,?_,h3,h4⟩
 unfold OwnC
 rw [List.length_append,cellsT_append]
 exact h2
end
section
open Go.RowKit
structure SIn (w:World) (sb:Nat) (ca:Option Addr) (n cc:Nat) (mode:Int) (tb tc:Nat) (rv qv:Nat→Value) (wv ov pv:Value) (s:Sx):Prop where
 code:w.cell? ⟨sb,0,none⟩=some (.slice ca n cc)
 mode:w.cell? ⟨sb,4,none⟩=some (.int .i64 mode)
 ths:w.cell? ⟨sb,5,none⟩=some (.slice (some ⟨tb,0,none⟩) s.ths.length tc)
 words:w.cell? ⟨sb,6,none⟩=some wv
 own:w.cell? ⟨sb,7,none⟩=some ov
 prints:w.cell? ⟨sb,8,none⟩=some pv
 fell:w.cell? ⟨sb,9,none⟩=some (.bool s.fell)
 pc:∀ t,t < s.ths.length→w.cell? ⟨tb,t*3,none⟩=some (.int .i64 (thOf s t).pc)
 regs:∀ t,t < s.ths.length→w.cell? ⟨tb,t*3+1,none⟩=some (rv t)
 wait:∀ t,t < s.ths.length→w.cell? ⟨tb,t*3+2,none⟩=some (qv t)
theorem next_ended (sb:Nat) (ca:Option Addr) (n cc:Nat) (mode:Int) (tb tc:Nat) (rv qv:Nat→Value) (wv ov pv:Value) (s:Sx) (A:Nat→Option Addr) (L C:Nat→Nat) (X:Nat→Nat→Nat→Int) (hn:s.ths.length=n) (t:Nat) (ht:t < n) (_hN:n≤4) (_hL:L t≤1000) (_hpc:(thOf s t).pc≤1000) (hend:L t≤(thOf s t).pc) (w:World) (hs:SIn w sb ca n cc mode tb tc rv qv wv ov pv s) (hp:PIn w ca n A L C X) :
  Calls Tryz.prog 87 #[.pointer (some ⟨sb,0,none⟩),.int .i64 t] w fun e w'=>e=.returned (.tuple #[.agg #[.int .i64 0,.int .i64 0,.int .i64 0,.int .i64 0],.bool false])∧Below w.heap.size w w':=by
 obtain ⟨cb,co,rfl,hcell⟩:=hp.code t ht
 have h0:=cell_up hs.code
 have h5:=cell_up hs.ths
 have hpcc:=cell_up (hs.pc t (by omega))
 have hcc:=cell_up hcell
 simp only [hn] at h5
 obtain ⟨k,hk⟩:∃ k,(thOf s t).pc=k:=⟨_,rfl⟩
 simp only [hk] at hpcc _hpc hend
 go_enter Tryz.func87,Tryz.ntmps87
 go_wp2
 refine bodyPost_ret (v:=.tuple #[.agg #[.int .i64 0,.int .i64 0,.int .i64 0,.int .i64 0],.bool false]) (by simp [results,Tryz.results87,go_sem]) rfl ⟨rfl,(Below.refl _ _).alloc (Nat.le_refl _) _⟩
theorem next_more (sb:Nat) (ca:Option Addr) (n cc:Nat) (mode:Int) (tb tc:Nat) (rv qv:Nat→Value) (wv ov pv:Value) (s:Sx) (A:Nat→Option Addr) (L C:Nat→Nat) (X:Nat→Nat→Nat→Int) (hn:s.ths.length=n) (t:Nat) (ht:t < n) (_hN:n≤4) (_hL:L t≤1000) (hend:(thOf s t).pc < L t) (w:World) (hs:SIn w sb ca n cc mode tb tc rv qv wv ov pv s) (hp:PIn w ca n A L C X) :
  Calls Tryz.prog 87 #[.pointer (some ⟨sb,0,none⟩),.int .i64 t] w fun e w'=>e=.returned (.tuple #[.agg #[.int .i64 (opT X s t 0),.int .i64 (opT X s t 1),.int .i64 (opT X s t 2),.int .i64 (opT X s t 3)],.bool true])∧Below w.heap.size w w':=by
 obtain ⟨cb,co,rfl,hcell⟩:=hp.code t ht
 have h0:=cell_up hs.code
 have h5:=cell_up hs.ths
 have hpcc:=cell_up (hs.pc t (by omega))
 have hcc:=cell_up hcell
 simp only [hn] at h5
 unfold opT
 obtain ⟨k,hk⟩:∃ k,(thOf s t).pc=k:=⟨_,rfl⟩
 simp only [hk] at hpcc hend ⊢
 obtain ⟨ob,oo,hA,x0,x1,x2,x3⟩:=hp.ord t k ht hend
 rw [hA] at hcc
 have y0:=cell_up x0
 have y1:=cell_up x1
 have y2:=cell_up x2
 have y3:=cell_up x3
 obtain ⟨v0,e0⟩:∃ v,X t k 0=v:=⟨_,rfl⟩
 obtain ⟨v1,e1⟩:∃ v,X t k 1=v:=⟨_,rfl⟩
 obtain ⟨v2,e2⟩:∃ v,X t k 2=v:=⟨_,rfl⟩
 obtain ⟨v3,e3⟩:∃ v,X t k 3=v:=⟨_,rfl⟩
 simp only [e0] at y0 ⊢
 simp only [e1] at y1 ⊢
 simp only [e2] at y2 ⊢
 simp only [e3] at y3 ⊢
 go_enter Tryz.func87,Tryz.ntmps87
 go_wp2
 refine bodyPost_ret (v:=.tuple #[.agg #[.int .i64 v0,.int .i64 v1,.int .i64 v2,.int .i64 v3],.bool true]) (by simp [results,Tryz.results87,go_sem]) rfl ⟨rfl,(Below.refl _ _).alloc (Nat.le_refl _) _⟩
end
section
open Go.RowKit
def WIn (w:World) (a:Option Addr) (l:List Wt):Prop:=∀ i,i < l.length→∃ b o,a=some ⟨b,o,none⟩∧w.cell? ⟨b,o+i*3,none⟩=some (.bool (l.getD i default).lk)∧w.cell? ⟨b,o+i*3+1,none⟩=some (.int .i64 (l.getD i default).wh)∧w.cell? ⟨b,o+i*3+2,none⟩=some (.int .i64 (l.getD i default).what)
theorem WIn.below {w w':World} {a:Option Addr} {l:List Wt} (h:WIn w a l) (hb:Below w.heap.size w w'):WIn w' a l:=fun i hi=>by
 obtain ⟨b,o,e,h0,h1,h2⟩:=h i hi
 exact ⟨b,o,e,(hb.cell (lt_of_cell h0)).trans h0,(hb.cell (lt_of_cell h1)).trans h1,(hb.cell (lt_of_cell h2)).trans h2⟩
theorem may_any (sb:Nat) (mode:Int) (qa:Option Addr) (qc:Nat) (l:List Wt) (k:Nat) (hk:k < l.length) (_hl:l.length≤100) (w:World) (hm:w.cell? ⟨sb,4,none⟩=some (.int .i64 mode)) (hq:WIn w qa l) :
  Calls Tryz.prog 89 #[.pointer (some ⟨sb,0,none⟩),.slice qa l.length qc,.int .i64 k] w fun e w'=>e=.returned (.bool (mayW mode l k))∧Below w.heap.size w w':=by
 obtain ⟨b,o,rfl,k0,k1,_⟩:=hq k hk
 obtain ⟨r,hr⟩:∃ r,mayW mode l k=r:=⟨_,rfl⟩
 have HR:Hid (mayW mode l k=r):=hr
 rw [hr]
 clear hr
 obtain ⟨lkk,e1⟩:∃ v,(l.getD k default).lk=v:=⟨_,rfl⟩
 obtain ⟨whk,e2⟩:∃ v,(l.getD k default).wh=v:=⟨_,rfl⟩
 have HE1:Hid ((l.getD k default).lk=lkk):=e1
 have HE2:Hid ((l.getD k default).wh=whk):=e2
 rw [e1] at k0
 rw [e2] at k1
 clear e1 e2
 go_enter Tryz.func89,Tryz.ntmps89
 by_cases hk0:k=0
 ·subst hk0
  obtain rfl:r=true:=by rw [← HR.out]; simp [mayW]
  go_wp2
  go_ret
  exact ⟨rfl,Below.refl _ _⟩
 ·by_cases hm1:mode=1
  ·obtain rfl:r=false:=by rw [← HR.out]; simp [mayW,hk0,hm1]
   go_wp2
   go_ret
   exact ⟨rfl,Below.refl _ _⟩
  ·cases lkk with
   | true =>
    obtain rfl:r=false:=by rw [← HR.out]; simp only [mayW,hk0,HE1.out]; simp
    go_wp2
    go_ret
    exact ⟨rfl,Below.refl _ _⟩
   | false =>
    have HV:Hid (mayW mode l k=(l.take k).all fun x=>!(x.lk || decide (x.wh=whk))):=by
     show _=_
     simp only [mayW,hk0,hm1,HE1.out,HE2.out]
     simp
    go_wp2
    go_loopw [7] (fun i wr=>∃ j:Nat,j≤k∧i=.int .i64 j∧Hid (∀ p,p < j→(l.getD p default).lk=false∧(l.getD p default).wh≠whk)∧Below w.heap.size w wr) (fun i _=>k - (intOf i).toNat)
    case atStart=>exact ⟨0,Nat.zero_le _,rfl,fun p hp=>absurd hp (Nat.not_lt_zero _),Below.refl _ _⟩
    case round =>
     obtain ⟨j,hj,rfl,HJ,hbr⟩:=hrel
     have k0r:=(hbr.cell (lt_of_cell k0)).trans k0
     have k1r:=(hbr.cell (lt_of_cell k1)).trans k1
     have hqr:=hq.below hbr
     by_cases hlt:j < k
     ·obtain ⟨_,_,e0,j0,j1,_⟩:=hqr j (by omega)
      simp only [Option.some.injEq,Addr.mk.injEq,and_true] at e0
      obtain ⟨rfl,rfl⟩:=e0
      obtain ⟨lj,f1⟩:∃ v,(l.getD j default).lk=v:=⟨_,rfl⟩
      obtain ⟨wj,f2⟩:∃ v,(l.getD j default).wh=v:=⟨_,rfl⟩
      have HF1:Hid ((l.getD j default).lk=lj):=f1
      have HF2:Hid ((l.getD j default).wh=wj):=f2
      rw [f1] at j0
      rw [f2] at j1
      clear f1 f2
      have hmem:l.getD j default∈l.take k:=by
       have h1:j < l.length:=by omega
       have e:l.getD j default=(l.take k)[j]'(by simp; omega):=by simp [List.getD,List.getElem?_eq_getElem h1]
       rw [e]
       exact List.getElem_mem _
      have HMM:=hiD hmem
      clear hmem
      cases lj with
      | true =>
       obtain rfl:r=false:=by
        rw [← HR.out,HV.out,List.all_eq_false]
        exact ⟨_,HMM.out,by simp only [HF1.out]; simp⟩
       go_wp2
       go_region
       all_goals go_wp2
       all_goals go_ret
       all_goals exact ⟨rfl,hbr.drew⟩
      | false =>
       by_cases hwe:wj=whk
       ·obtain rfl:r=false:=by
         rw [← HR.out,HV.out,List.all_eq_false]
         exact ⟨_,HMM.out,by simp only [HF1.out,HF2.out,hwe]; simp⟩
        go_wp2
        go_region
        all_goals go_wp2
        all_goals go_ret
        all_goals exact ⟨rfl,hbr.drew⟩
       ·go_wp2
        go_region
        all_goals go_wp2
        all_goals go_roundw
        case rel =>
         refine ⟨j+1,by omega,by go_num,?_,hbr.drew⟩
         intro p hp
         rcases (by omega:p < j∨p=j) with h | rfl
         ·exact HJ.out p h
         ·exact ⟨HF1.out,by rw [HF2.out]; exact hwe⟩
        case measure=>simp [intOf]; omega
     ·obtain rfl:j=k:=by omega
      obtain rfl:r=true:=by
       rw [← HR.out,HV.out,List.all_eq_true]
       intro x hx
       obtain ⟨p,hp,rfl⟩:=List.mem_iff_getElem.mp hx
       have hpj:p < j:=by simp at hp; omega
       have h2:=HJ.out p hpj
       have e:l.getD p default=(l.take j)[p]:=by simp [List.getD,List.getElem?_eq_getElem (show p < l.length by omega)]
       rw [e] at h2
       rw [h2.1,decide_eq_false h2.2]
       rfl
      go_wp2
      go_ret
      exact ⟨rfl,hbr⟩
end
section
open Go.RowKit
def IsBool (e:Ending):Prop:=∃ b,e=.returned (.bool b)
theorem vast_any (ca:Option Addr) (n cc:Nat) (wa:Option Addr) (m wc:Nat) (lk rg:Int) (A:Nat→Option Addr) (L C:Nat→Nat) (X:Nat→Nat→Nat→Int) (_hm:m≤9223372036854775807) (w:World) (hp:PIn w ca n A L C X) :
  Calls Tryz.prog 6 #[prgV ca n cc wa m wc lk rg] w fun e w'=>IsBool e∧Below w.heap.size w w':=by
 have hn:=hp.num
 have HB:Below w.heap.size w (w.alloc (.cells #[.slice ca n cc,.slice wa m wc,.int .i64 lk,.int .i64 rg] 25)):=(Below.refl _ _).alloc (Nat.le_refl _) _
 have hp2:=hp.below HB
 clear hp
 go_enter Tryz.func6,Tryz.ntmps6
 go_wp2
 go_loop [3,4] (fun s i=>∃ (q:Int) (k:Nat),k≤n∧s=.int .i64 q∧i=.int .i64 k) (fun _ i=>n - (intOf i).toNat)
 case atStart=>exact ⟨_,0,Nat.zero_le _,rfl,rfl⟩
 case round =>
  obtain ⟨q,k,hk,rfl,rfl⟩:=hrel
  by_cases hlt:k < n
  ·obtain ⟨cb,co,rfl,hcell⟩:=hp2.code k hlt
   have hl:=hp2.len k hlt
   by_cases h100:(k:Int) < 100
   ·go_wp2
    go_round
    case rel=>exact ⟨_,k+1,by omega,rfl,by go_num⟩
    case measure=>simp [intOf]; omega
   ·go_wp2
    all_goals go_ret
    all_goals exact ⟨⟨_,rfl⟩,HB⟩
  ·go_wp2
   all_goals go_ret
   all_goals exact ⟨⟨_,rfl⟩,HB⟩
end
end Go.Proofs.YtelckcpjmekgcacGreatDoor
