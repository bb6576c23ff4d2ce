/-
  All that can be come to, as the document goes through it: what holds between two steps, and what put and Put make of it.
  What the document says of colours.
-/
import Derived.Test.YtocfocjnnjdcgaaDoorAlpF
import Derived.Test.YtocfocjnnjdcgaaDoorSpaceP
import Derived.Test.YtocfocjnnjdcgaaDoorAlcA
import Derived.Test.YtocfocjnnjdcgaaDoorLivJ
import Derived.Test.YtocfocjnnjdcgaaDoorRMay
import Derived.Test.YtocfocjnnjdcgaaDoorCOkP
import Derived.Deep.RegionHeld3
import Derived.BigQuiet
namespace Go.Proofs.YtocfocjnnjdcgaaDoor
section
open Go.RowKit

section
variable {ι : Type} {w w' : World} {vf vf' : ι → Value}
/-- An outcome whose lists lie outside of rows. -/
structure EnO (w : World) (vf : ι → Value) (e : En) : Prop where
  ws : LIo w vf e.wa e.o.ws
  pr : LIo w vf e.pa e.o.pr
  wl : e.o.ws.length ≤ 100000
  pl : e.o.pr.length ≤ 100000
  cap : e.o.ws.length ≤ e.wc
theorem EnO.ok {e : En} (h : EnO w vf e) : EnOk w e := ⟨h.ws.li, h.pr.li, h.wl, h.pl⟩
theorem EnO.moved {e : En} (h : EnO w vf e) (hm : Moved w w' vf vf') : EnO w' vf' e := ⟨h.ws.moved hm, h.pr.moved hm, h.wl, h.pl, h.cap⟩
/-- Outcomes lie outside of rows, one behind the other. -/
def EIo (w : World) (vf : ι → Value) (a : Option Addr) (es : List En) : Prop := ∀ i, i < es.length → ∃ b o, a = some ⟨b, o, none⟩ ∧ (∀ j, j < 3 → w.cell? ⟨b, o + i * 3 + j, none⟩ = some (enC (es.getD i default) j)) ∧ ∀ q, (vf q).ownBlock ≠ some b
theorem EIo.ein {a : Option Addr} {es : List En} (h : EIo w vf a es) : EIn w a es := fun i hi => by
  obtain ⟨b, o, h1, h2, _⟩ := h i hi
  exact ⟨b, o, h1, h2 0 (by omega), h2 1 (by omega), h2 2 (by omega)⟩
theorem EIo.moved {a : Option Addr} {es : List En} (h : EIo w vf a es) (hm : Moved w w' vf vf') : EIo w' vf' a es := fun i hi => by
  obtain ⟨b, o, h1, h2, h3⟩ := h i hi
  exact ⟨b, o, h1, fun j hj => (hm.cell (a := ⟨b, o + i * 3 + j, none⟩) (lt_of_cell (h2 j hj)) h3).trans (h2 j hj), hm.out (lt_of_cell (h2 0 (by omega))) h3⟩
theorem IsO.eio {B : Nat} {a : Option Addr} {len c : Nat} {es : List En} (h : IsO w B a len c es) (ho : ∀ g, (Value.slice a len c).ownBlock = some g → ∀ q, (vf q).ownBlock ≠ some g) : EIo w vf a es := fun i hi => by
  obtain ⟨g, cap, h1, h2, _, _⟩ := fam_block h.own (by have := h.is; omega)
  simp only [Value.slice.injEq] at h1
  refine ⟨g, 0, h1.1, fun j hj => ?_, ho g h2⟩
  have := fam_cell h.own h2 (i := i * 3 + j) (u := enC (es.getD i default) j) (rows3_get hi hj)
  rw [show 0 + i * 3 + j = i * 3 + j by omega]
  exact this
end
theorem insO_len {o : Oc} : ∀ l : List Oc, (insO o l).length ≤ l.length + 1
  | [] => by simp [insO]
  | a :: l => by
    unfold insO
    split
    · simp
    · split
      · have := insO_len (o := o) l
        simp only [List.length_cons]
        omega
      · simp
/-- How many numbers a state is. -/
theorem nums_len {n : Nat} {L : Nat → Nat} {m lk rg : Nat} {mode : Int} {s : Sx} (ho : SOk n L m lk rg mode s) (hN : n ≤ 4) (hm64 : m ≤ 64) (hlk4 : lk ≤ 4) (hrg : rg ≤ 200) (hpl : s.prints.length ≤ 20000) : (numsX s).length ≤ 100000 := by
  have h1 := numA_len s (rg := rg) (fun t ht => ho.regs t (by rw [← ho.ths]; exact ht)) (fun t ht => ho.wlen t (by rw [← ho.ths]; exact ht)) s.ths.length (Nat.le_refl _)
  have h2 : (11 + rg) * s.ths.length ≤ 211 * 4 := Nat.mul_le_mul (by omega) (by rw [ho.ths]; exact hN)
  have h3 := ho.words
  have h4 := ho.own
  show (s.ths.flatMap numT ++ s.words ++ s.own ++ s.prints).length ≤ 100000
  rw [← numA_all]
  simp only [List.length_append]
  omega

/-- A program, and the state ahead of its first step. -/
structure Bc where
  P : Pg
  A : Nat → Option Addr
  L : Nat → Nat
  C : Nat → Nat
  X : Nat → Nat → Nat → Int
  m : Nat
  lk : Nat
  rg : Nat
  s0 : Sx
structure BcOk (c : Bc) (w : World) : Prop where
  n0 : 0 < c.P.n
  cok : COk c.P.n c.L c.X c.m c.lk c.rg
  prog : PIn w c.P.ca c.P.n c.A c.L c.C c.X
  mode : 0 ≤ c.P.mode
abbrev Bc.nx (c : Bc) : Sx → List Sx := nxX c.L c.X c.P.mode
abbrev Bc.outs (c : Bc) : Sx → List Oc := outsX c.L c.X c.P.mode
/-- What holds of a state that was come to as the k-th one. -/
structure StOk (c : Bc) (k : Nat) (s : Sx) : Prop where
  ok : SOk c.P.n c.L c.m c.lk c.rg c.P.mode s
  fell : s.fell = false
  pr : s.prints.length ≤ 2 * k
/-- What holds between two steps: i states were gone through, there are at most N outcomes. -/
structure SpO (c : Bc) (w0 W : World) (pb : Nat) (v : Sr → Value) (d : Sd) (ea : Option Addr) (ec : Nat) (es : List En) (i N : Nat) : Prop where
  sp : SpIn W w0.heap.size c.P pb v d
  ends : d.ends = .slice ea es.length ec
  ein : EIo W v ea es
  eok : ∀ x, x ∈ es → EnO W v x
  sorted : SortedO (es.map En.o)
  wk : Wk c.nx c.outs c.s0 d.ss (fun s => s ∈ d.ss.take i) (fun o => o ∈ es.map En.o)
  ok : ∀ k, k < d.ss.length → StOk c k (d.ss.getD k default)
  cnt : es.length ≤ N
  full : d.full = decide (4000 < d.ss.length)
  few : d.ss.length ≤ 4001
  low : Below w0.heap.size w0 W
  gone : i ≤ d.ss.length
section
variable {c : Bc} {w0 W w' : World} {pb : Nat} {v : Sr → Value} {d : Sd} {ea : Option Addr} {ec : Nat} {es : List En} {i N : Nat}
theorem SpO.below (h : SpO c w0 W pb v d ea ec es i N) (hb : Below W.heap.size W w') : SpO c w0 w' pb v d ea ec es i N :=
  ⟨h.sp.below hb, h.ends, h.ein.moved (Moved.of_below hb), fun x hx => (h.eok x hx).moved (Moved.of_below hb), h.sorted, h.wk, h.ok, h.cnt, h.full, h.few, h.low.trans (hb.mono h.low.size), h.gone⟩
theorem SpO.more (h : SpO c w0 W pb v d ea ec es i N) {N' : Nat} (hN : N ≤ N') : SpO c w0 W pb v d ea ec es i N' :=
  ⟨h.sp, h.ends, h.ein, h.eok, h.sorted, h.wk, h.ok, Nat.le_trans h.cnt hN, h.full, h.few, h.low, h.gone⟩
theorem SpO.mem (_h : SpO c w0 W pb v d ea ec es i N) {k : Nat} (hk : k < d.ss.length) : d.ss.getD k default ∈ d.ss := by
  rw [List.getD_eq_getElem?_getD, List.getElem?_eq_getElem hk]; exact List.getElem_mem hk
/-- What Put leaves. -/
theorem SpO.put_end (h : SpO c w0 W pb v d ea ec es i N) {e : En} {en : Ending} (hq : PutQ W pb e es en w') (he : EnO W v e) {x : Sx} (hx : x ∈ d.ss) (ho : e.o ∈ c.outs x) :
    en = .returned (.tuple #[]) ∧ Moved W w' v v ∧ ∃ d' ea' ec' es', SpO c w0 w' pb v d' ea' ec' es' i (N + 1) ∧ d'.ss = d.ss ∧ d'.sbs = d.sbs ∧ ∀ y, y ∈ es'.map En.o ↔ y = e.o ∨ y ∈ es.map En.o := by
  obtain ⟨rfl, hq⟩ := hq
  refine ⟨rfl, ?_⟩
  rcases hq with ⟨hb, hins⟩ | ⟨w2, a, len, cc, es2, rfl, hb, hI, hm, hall⟩
  · refine ⟨Moved.of_below hb, d, ea, ec, es, (h.below hb).more (by omega), rfl, rfl, fun y => ?_⟩
    rw [← mem_insO, hins]
  · have hM : Moved W (w2.setCell ⟨pb, 4, none⟩ (.slice a len cc)) v v := (Moved.of_below hb).put (r := .box) h.sp.bblk 4 _
    have hM2 : Moved w2 (w2.setCell ⟨pb, 4, none⟩ (.slice a len cc)) v v := (Moved.refl _ _).put (r := .box) h.sp.bblk 4 _
    have hmem : ∀ y, y ∈ es2.map En.o ↔ y = e.o ∨ y ∈ es.map En.o := fun y => by rw [hm]; exact mem_insO
    refine ⟨hM, ⟨d.sbs, d.ss, d.ks, .slice a len cc, d.full⟩, a, cc, es2, ⟨⟨(h.sp.fam.below hb).put (r := .box) h.sp.bblk 4 _ (fun q => by cases q <;> rfl) rfl (fun q hq => by cases q <;> first | rfl | exact absurd rfl hq), h.sp.box, h.sp.len, h.sp.klen, fun k hk => ?_, fun k hk => ?_⟩, ?_, ?_, fun y hy => ?_, ?_, ?_, h.ok, ?_, h.full, h.few, ?_, h.gone⟩, rfl, rfl, hmem⟩
    · obtain ⟨B', v', h1, h2⟩ := h.sp.states k hk
      obtain ⟨h3, h4⟩ := h1.moved h2 hM
      exact ⟨B', v', h3, h4⟩
    · obtain ⟨B', h1, h2⟩ := h.sp.keys k hk
      obtain ⟨h3, h4⟩ := h1.moved h2 hM
      exact ⟨B', h3, h4⟩
    · show Value.slice a len cc = .slice a es2.length cc
      rw [hI.is]
    · refine (IsO.eio hI (fun g hg q e => ?_)).moved hM2
      have h1 := (hI.own.lt g hg).1
      have h2 := h.sp.fam.lt e
      omega
    · rcases hall y hy with rfl | hy
      · exact he.moved hM
      · exact (h.eok y hy).moved hM
    · rw [hm]; exact sorted_insO h.sorted
    · exact h.wk.out hx ho hmem
    · have h1 := insO_len (o := e.o) (es.map En.o)
      rw [← hm, List.length_map, List.length_map] at h1
      have h2 := h.cnt
      omega
    · exact h.low.trans (hM.below h.low.size h.sp.fam.low)
/-- What put leaves. -/
theorem SpO.put_state (h : SpO c w0 W pb v d ea ec es i N) {xb : Nat} {sx : Sx} {en : Ending} (hq : SputQ W w0.heap.size c.P pb v d xb sx en w') (hnf : d.full = false) (hsx : StOk c d.ss.length sx) {x : Sx} (hx : x ∈ d.ss) (ho : sx ∈ c.nx x) :
    en = .returned (.tuple #[]) ∧ ∃ v' d', SpO c w0 w' pb v' d' ea ec es i N ∧ Moved W w' v v' ∧ sx ∈ d'.ss ∧ (∀ t, t ∈ d.ss → t ∈ d'.ss) ∧ d.ss.length ≤ d'.ss.length ∧ ∀ k, k < d.ss.length → d'.ss.getD k default = d.ss.getD k default ∧ d'.sbs.getD k 0 = d.sbs.getD k 0 := by
  obtain ⟨rfl, hq⟩ := hq
  refine ⟨rfl, ?_⟩
  rcases hq with ⟨⟨k, hk, hkk⟩, hb⟩ | ⟨hno, v', ka, kc, hS, hM⟩
  · refine ⟨v, d, h.below hb, Moved.of_below hb, ?_, fun t ht => ht, Nat.le_refl _, fun k _ => ⟨rfl, rfl⟩⟩
    have e := nums_inj (h.ok k hk).ok hsx.ok (by rw [(h.ok k hk).fell, hsx.fell]) hkk
    rw [← e]
    exact h.mem hk
  · have hss : (d.push xb sx ka kc).ss = d.ss ++ [sx] := rfl
    have hnew : sx ∉ d.ss := fun hm => by
      obtain ⟨k, hk, e⟩ := List.getElem_of_mem hm
      refine hno k hk ?_
      unfold keyL
      rw [List.getD_eq_getElem?_getD, List.getElem?_eq_getElem hk]
      exact congrArg numsX e
    have hlen : d.ss.length ≤ 4000 := by
      have := h.full
      rw [hnf] at this
      have := of_decide_eq_false this.symm
      omega
    refine ⟨v', d.push xb sx ka kc, ⟨hS, h.ends, h.ein.moved hM, fun y hy => (h.eok y hy).moved hM, h.sorted, ?_, fun k hk => ?_, h.cnt, ?_, ?_, h.low.trans (hM.below h.low.size h.sp.fam.low), ?_⟩, hM, ?_, fun t ht => ?_, ?_, fun k hk => ⟨push_ss hk, ?_⟩⟩
    · rw [hss]
      refine (h.wk.push hx ho hnew).same (fun s => ?_) (fun _ => Iff.rfl)
      rw [List.take_append_of_le_length h.gone]
    · rw [push_len] at hk
      rcases Nat.lt_or_ge k d.ss.length with h1 | h1
      · rw [push_ss h1]; exact h.ok k h1
      · obtain rfl : k = d.ss.length := by omega
        rw [push_new]
        exact hsx
    · rw [push_len]
      show (d.full || _) = _
      rw [hnf, Bool.false_or]
    · rw [push_len]; omega
    · rw [push_len]; have := h.gone; omega
    · rw [hss]; simp
    · rw [hss]; exact List.mem_append_left _ ht
    · rw [push_len]; omega
    · show (d.sbs ++ [xb]).getD k 0 = _
      simp [List.getD, List.getElem?_append_left (show k < d.sbs.length by rw [h.sp.len]; exact hk)]
/-- put, while there are not too many. -/
theorem SpO.put_any (h : SpO c w0 W pb v d ea ec es i N) (hc : BcOk c w0) {Bx xb : Nat} {vx : Rl → Value} {sx : Sx} (hD : DSt W Bx c.P xb vx sx) (hxo : ∀ r g, (vx r).ownBlock = some g → ∀ q, (v q).ownBlock ≠ some g) (hnf : d.full = false) (hsx : StOk c d.ss.length sx) {x : Sx} (hx : x ∈ d.ss) (ho : sx ∈ c.nx x) :
    Calls Tryd.prog 75 #[.pointer (some ⟨pb, 0, none⟩), .pointer (some ⟨xb, 0, none⟩)] W fun e w' => e = .returned (.tuple #[]) ∧ ∃ v' d', SpO c w0 w' pb v' d' ea ec es i N ∧ Moved W w' v v' ∧ sx ∈ d'.ss ∧ (∀ t, t ∈ d.ss → t ∈ d'.ss) ∧ d.ss.length ≤ d'.ss.length ∧ ∀ k, k < d.ss.length → d'.ss.getD k default = d.ss.getD k default ∧ d'.sbs.getD k 0 = d.sbs.getD k 0 := by
  have hf := h.few
  refine Calls.mono (sput_any W w0.heap.size c.P pb v d c.L c.m c.lk c.rg Bx xb vx sx h.sp hD hxo hsx.ok hc.n0 hc.cok.n4 hc.cok.m64 hc.cok.lk4 hc.cok.rg2 (by have := hsx.pr; omega) (by omega) (fun k hk => ?_)) (fun e w' hq => h.put_state hq hnf hsx hx ho)
  have := h.ok k hk
  exact nums_len this.ok hc.cok.n4 hc.cok.m64 hc.cok.lk4 hc.cok.rg2 (by have := this.pr; omega)
theorem SpO.Put_any (h : SpO c w0 W pb v d ea ec es i N) {e : En} (he : EnO W v e) {x : Sx} (hx : x ∈ d.ss) (ho : e.o ∈ c.outs x) (hi4 : i ≤ 4000) (hN : N ≤ 16 * i + 16) :
    Calls Tryd.prog 78 #[.pointer (some ⟨pb, 0, none⟩), enV e] W fun en w' => en = .returned (.tuple #[]) ∧ Moved W w' v v ∧ ∃ d' ea' ec' es', SpO c w0 w' pb v d' ea' ec' es' i (N + 1) ∧ d'.ss = d.ss ∧ d'.sbs = d.sbs ∧ ∀ y, y ∈ es'.map En.o ↔ y = e.o ∨ y ∈ es.map En.o := by
  have c4 := h.sp.c4
  rw [h.ends] at c4
  exact Calls.mono (oput_any W pb ea ec es e c4 (h.sp.fam.frozen h.sp.bblk 4) h.ein.ein (fun x hx => (h.eok x hx).ok) he.ok h.sorted (by have := h.cnt; omega)) (fun en w' hq => h.put_end hq he hx ho)
/-- One state has been gone through. -/
theorem SpO.goneOn (h : SpO c w0 W pb v d ea ec es i N) (hi : i < d.ss.length) (hn : ∀ t, t ∈ c.nx (d.ss.getD i default) → t ∈ d.ss) (ho : ∀ o, o ∈ c.outs (d.ss.getD i default) → o ∈ es.map En.o) : SpO c w0 W pb v d ea ec es (i + 1) N :=
  ⟨h.sp, h.ends, h.ein, h.eok, h.sorted, h.wk.gone (h.mem hi) hn ho (fun s hs => by
    rw [List.take_add_one, List.getElem?_eq_getElem hi] at hs
    rcases List.mem_append.mp hs with hs | hs
    · exact Or.inr hs
    · refine Or.inl ?_
      rw [List.getD_eq_getElem?_getD, List.getElem?_eq_getElem hi]
      exact List.mem_singleton.mp hs), h.ok, h.cnt, h.full, h.few, h.low, hi⟩
theorem SpO.start (hS : SpIn W w0.heap.size c.P pb v d0) (hb : Below w0.heap.size w0 W) (hsx : StOk c 0 c.s0) {xb : Nat} {en : Ending} (hq : SputQ W w0.heap.size c.P pb v d0 xb c.s0 en w') : en = .returned (.tuple #[]) ∧ ∃ v' d', SpO c w0 w' pb v' d' none 0 [] 0 0 := by
  obtain ⟨rfl, hq⟩ := hq
  refine ⟨rfl, ?_⟩
  rcases hq with ⟨⟨k, hk, _⟩, _⟩ | ⟨_, v', ka, kc, hS', hM⟩
  · exact absurd hk (Nat.not_lt_zero _)
  · refine ⟨v', d0.push xb c.s0 ka kc, hS', rfl, fun i hi => absurd hi (Nat.not_lt_zero _), fun x hx => (by cases hx), List.Pairwise.nil, ?_, fun k hk => ?_, Nat.le_refl _, rfl, by rw [push_len]; decide, hb.trans (hM.below hb.size hS.fam.low), Nat.zero_le _⟩
    · exact Wk.begin.same (fun s => by simp) (fun o => by simp)
    · rw [push_len] at hk
      obtain rfl : k = 0 := by have : d0.ss.length = 0 := rfl; omega
      exact hsx
/-- What is told at the end. -/
theorem SpO.told (h : SpO c w0 W pb v d ea ec es i N) (hi : d.full = false → i = d.ss.length) : Told c.nx c.outs c.s0 4000 d.full (es.map En.o) ∧ (d.full = false → ∀ s, s ∈ d.ss ↔ Rch c.nx c.s0 s) := by
  cases hf : d.full with
  | true =>
    have := h.full
    rw [hf] at this
    exact ⟨h.wk.full _ (of_decide_eq_true this.symm), fun h => by cases h⟩
  | false =>
    have h1 := h.full
    rw [hf] at h1
    have h2 := of_decide_eq_false h1.symm
    have hP : ∀ s, s ∈ d.ss → s ∈ d.ss.take i := fun s hs => by rw [hi hf, List.take_length]; exact hs
    exact ⟨h.wk.told hP h.sorted (fun o => Iff.rfl) (by omega), fun _ => (h.wk.whole hP).1⟩
theorem SpO.stB (h : SpO c w0 W pb v d ea ec es i N) (hn : 0 < d.ss.length) : ∃ hb hc, v .st = .slice (some ⟨hb, 0, none⟩) d.ss.length hc ∧ (v .st).ownBlock = some hb := by
  obtain ⟨g, c, h1, h2, _, _⟩ := fam_block (h.sp.fam.own .st) (by exact hn)
  exact ⟨g, c, h1, h2⟩
theorem SpO.stC (h : SpO c w0 W pb v d ea ec es i N) {hb k : Nat} (e : (v .st).ownBlock = some hb) (hk : k < d.ss.length) : W.cell? ⟨hb, k, none⟩ = some (.pointer (some ⟨d.sbs.getD k 0, 0, none⟩)) := by
  refine h.sp.fam.cell e ?_
  show (d.sbs.map fun b => Value.pointer (some ⟨b, 0, none⟩))[k]? = _
  have hk' : k < d.sbs.length := by rw [h.sp.len]; exact hk
  rw [List.getElem?_map, List.getElem?_eq_getElem hk', List.getD_eq_getElem?_getD, List.getElem?_eq_getElem hk']
  rfl
end
/-- A state's words and prints as an outcome's. -/
theorem dst_eno {ι : Type} {W : World} {vf : ι → Value} {B : Nat} {P : Pg} {xb : Nat} {vx : Rl → Value} {s : Sx} (hD : DSt W B P xb vx s) (ho : ∀ r g, (vx r).ownBlock = some g → ∀ q, (vf q).ownBlock ≠ some g) (st : Int) (hw : s.words.length ≤ 100000) (hp : s.prints.length ≤ 100000) :
    ∃ wa wc pa pc, vx .words = .slice wa s.words.length wc ∧ vx .prints = .slice pa s.prints.length pc ∧ EnO W vf ⟨⟨st, s.words, s.prints⟩, wa, wc, pa, pc⟩ ∧ EnO W vf ⟨⟨st, [], s.prints⟩, none, 0, pa, pc⟩ := by
  obtain ⟨wa, wc, h1⟩ := hD.wordsV
  obtain ⟨pa, pc, h2⟩ := hD.printsV
  have lw : LIo W vf wa s.words := fun i hi => by
    obtain ⟨g, c, e1, e2, _⟩ := hD.wordsB (by omega)
    rw [h1] at e1
    simp only [Value.slice.injEq] at e1
    exact ⟨g, 0, e1.1, by simpa using hD.word e2 hi, ho _ g e2⟩
  have lp : LIo W vf pa s.prints := fun i hi => by
    obtain ⟨g, c, e1, e2, _, _⟩ := fam_block (hD.fam.own .prints) (by show 0 < s.prints.length; omega)
    rw [h2] at e1
    simp only [Value.slice.injEq] at e1
    exact ⟨g, 0, e1.1, by simpa using hD.fam.cell e2 (intsV_at hi), ho _ g e2⟩
  have hcap : s.words.length ≤ wc := by
    have h := (hD.fam.own .words).2
    rw [h1] at h
    rcases h with ⟨h, _⟩ | ⟨g, cap, cur, h, _, _, h3, _⟩
    · simp only [Value.slice.injEq] at h
      omega
    · simp only [Value.slice.injEq] at h
      omega
  exact ⟨wa, wc, pa, pc, h1, h2, ⟨lw, lp, hw, hp, hcap⟩, ⟨fun i hi => absurd hi (Nat.not_lt_zero _), lp, Nat.zero_le _, hp, Nat.zero_le _⟩⟩
end

section
open Go.RowKit

set_option maxRecDepth 100000 in
set_option maxHeartbeats 3200000 in
theorem rcolours_any (w : World) (ca : Option Addr) (n cc : Nat) (wa : Option Addr) (m wc lk rg : Nat) (A : Nat → Option Addr) (L C : Nat → Nat) (X : Nat → Nat → Nat → Int) (ka : Option Addr) (kn kc : Nat) (K : List (List Int)) (hp : PIn w ca n A L C X) (hc : COk n L X m lk rg) (hK : CIn w ka K) (hkn : K.length = kn) (hk100 : kn ≤ 100) :
    Calls Tryd.prog 20 #[prgV ca n cc wa m wc lk rg, .slice ka kn kc] w (BoolQ w (ColP K n L X rg)) := by
  have hS : Below w.heap.size w (w.alloc (.cells #[.slice ca n cc, .slice wa m wc, .int .i64 lk, .int .i64 rg] 25)) := below_one _ _
  have hP := heap_alloc_new w (.cells #[.slice ca n cc, .slice wa m wc, .int .i64 lk, .int .i64 rg] 25)
  obtain ⟨S, hSS⟩ : ∃ V, w.alloc (.cells #[.slice ca n cc, .slice wa m wc, .int .i64 lk, .int .i64 rg] 25) = V := ⟨_, rfl⟩
  have HSS := Hid.out (p := Hid _) hSS
  have p0 := box_cell (i := 0) hP rfl
  rw [hSS] at hS hP
  have HAT : Hid (∀ V, Below S.heap.size S V → Below w.heap.size w V ∧ V.heap[w.heap.size]? = some (.cells #[.slice ca n cc, .slice wa m wc, .int .i64 lk, .int .i64 rg] 25) ∧ PIn V ca n A L C X ∧ CIn V ka K) := fun V hV => by
    have h := hS.trans (hV.mono hS.size)
    exact ⟨h, blk hV hP, hp.below h, hK.below h⟩
  have HKN := Hid.out (p := Hid _) hkn
  have HCO := Hid.out (p := Hid _) hc
  have hrg := hc.rg2
  have hn4 := hc.n4
  clear hS hP hSS hp hK hkn hc
  go_enter Tryd.func20, Tryd.ntmps20
  by_cases hkk : kn = n
  · subst hkk
    have hkb : ((kn : Int) != (kn : Int)) = false := by simp
    go_wp2_with fail
    rw [HSS.out]
    clear p0 HSS hkb
    go_loopw [5] (fun i wr => ∃ t : Nat, t ≤ kn ∧ i = .int .i64 t ∧ Hid ((∀ q, q < t → ColT (K.getD q []) (Cl (X q) (L q)) rg) ∧ Below S.heap.size S wr)) (fun i _ => kn - (intOf i).toNat)
    case atStart => exact ⟨0, Nat.zero_le _, rfl, fun q hq => absurd hq (Nat.not_lt_zero _), Below.refl _ _⟩
    case round =>
      obtain ⟨t, ht, rfl, HI⟩ := hrel
      obtain ⟨hwV, hPV, hpV, hKV⟩ := HAT.out wr HI.out.2
      by_cases htn : t < kn
      · have htI : (t : Int) < (kn : Int) := by omega
        obtain ⟨kb, ko, kca, kcc, rfl, hkc, hks⟩ := hKV t (by rw [HKN.out]; exact htn)
        obtain ⟨cb, co, rfl, hcell⟩ := hpV.code t htn
        have p0 := box_cell (i := 0) hPV rfl
        have p3 := box_cell (i := 3) hPV rfl
        obtain ⟨k, hk⟩ : ∃ k, K.getD t [] = k := ⟨_, rfl⟩
        rw [hk] at hkc hks
        have HKT := Hid.out (p := Hid _) hk
        obtain ⟨kl, hkl⟩ : ∃ q, k.length = q := ⟨_, rfl⟩
        rw [hkl] at hkc
        have HKL := Hid.out (p := Hid _) hkl
        by_cases hlen : kl = rg
        · subst hlen
          have hlb : ((kl : Int) != (kl : Int)) = false := by simp
          obtain ⟨l, hl⟩ : ∃ l, L t = l := ⟨_, rfl⟩
          have HLT := Hid.out (p := Hid _) hl
          have hl4 : l ≤ 1000 := by rw [← hl]; exact HCO.out.L4 t htn
          obtain ⟨ak, hak⟩ : ∃ a, A t = a := ⟨_, rfl⟩
          rw [hl, hak] at hcell
          have HOK : Hid (∀ j, j < l → ordE kl m lk l (X t j 0) (X t j 1) (X t j 2) (X t j 3) = 0) := fun j hj => by
            have := HCO.out.ord t j htn (by rw [hl]; exact hj)
            rw [hl] at this
            exact this
          have HCS : Hid (∀ V, Below wr.heap.size wr V → V.cell? ⟨w.heap.size, 0, none⟩ = some (.slice (some ⟨cb, co, none⟩) kn cc) ∧ V.cell? ⟨cb, co + t, none⟩ = some (.slice ak l (C t)) ∧ V.cell? ⟨w.heap.size, 3, none⟩ = some (.int .i64 kl) ∧ V.cell? ⟨kb, ko + t, none⟩ = some (.slice kca kl kcc)) := fun V hV => ⟨(hV.cell (lt_of_cell p0)).trans p0, (hV.cell (lt_of_cell hcell)).trans hcell, (hV.cell (lt_of_cell p3)).trans p3, (hV.cell (lt_of_cell hkc)).trans hkc⟩
          have HCL : Hid (∀ V, Below wr.heap.size wr V → Calls Tryd.prog 12 #[.slice ak l (C t), .int .i64 kl] V fun e w' => ∃ g G P, e = .returned (.slice (some ⟨g, 0, none⟩) kl kl) ∧ Hid (Grid V w' g kl kl kl G P ∧ (∀ a b, a < kl → b < kl → ((P a).getD b false = true ↔ Cl (X t) l a b))) ∧ Below V.heap.size V w') := fun V hV => by
            refine (rclash_any V ak l (C t) (X t) kl m lk hl4 hrg (fun i hi => ?_) (fun i hi => HOK.out i hi)).mono ?_
            · obtain ⟨ab, ao, e1, c⟩ := ((HAT.out V (HI.out.2.trans (hV.mono HI.out.2.size))).2.2.1).ord t i htn (by rw [hl]; exact hi)
              exact ⟨ab, ao, by rw [← hak, e1], c⟩
            · rintro e w' ⟨g, G, P, rfl, hG, hB⟩
              exact ⟨g, G, P, rfl, ⟨hG, hB⟩, hG.low⟩
          have HKS : Hid (SIs wr kca k) := hks
          clear hks hk hkl hpV hwV hPV hKV hl hak
          go_wp2_with fail
          go_quiet (fail)
          go_wp2_with fail
          obtain ⟨V1, hV1⟩ : ∃ V, wr.drewN nq = V := ⟨_, rfl⟩
          have hB1 : Below wr.heap.size wr V1 := by rw [← hV1]; exact below_drewN (Below.refl _ _)
          rw [hV1]
          have HB1 := Hid.out (p := Hid _) hB1
          clear hV1 hB1 p0 hcell p3 hkc
          obtain ⟨p0, hcell, p3, -⟩ := HCS.out V1 HB1.out
          go_region_held3 (fun w' => w'.cell? ⟨w.heap.size, 0, none⟩ = some (.slice (some ⟨cb, co, none⟩) kn cc) ∧ w'.cell? ⟨cb, co + t, none⟩ = some (.slice ak l (C t)) ∧ w'.cell? ⟨w.heap.size, 3, none⟩ = some (.int .i64 kl)) (refine ⟨?_, ?_, ?_⟩ <;> (repeat (first | (with_reducible assumption) | (with_reducible refine cell_drw ?_) | (with_reducible refine cell_up ?_ _)))) ((go_at_call 12; refine Calls.mono (HCL.out _ HB1.out.drew) ?_; rintro e w5 ⟨g, G, P, rfl, HG, hb5⟩; have HB5 : Hid (Below wr.heap.size wr w5) := HB1.out.trans ((Below.refl _ _).drew.trans (hb5.mono (Nat.le_refl _)) |>.mono HB1.out.size); clear hb5; obtain ⟨p0, hcell, p3, -⟩ := HCS.out w5 HB5.out))
          have HGR : Hid (Grid V1.drew w5 g kl kl kl G P) := HG.out.1
          have HCB := Hid.out (p := Hid _) HG.out.2
          have HC5 : Hid (∀ V, Below w5.heap.size w5 V → Below wr.heap.size wr V ∧ Below S.heap.size S V ∧ V.cell? ⟨w.heap.size, 3, none⟩ = some (.int .i64 kl) ∧ V.cell? ⟨kb, ko + t, none⟩ = some (.slice kca kl kcc) ∧ SIs V kca k ∧ Grid V1.drew V g kl kl kl G P) := fun V hV => by
            have h := HB5.out.trans (hV.mono HB5.out.size)
            obtain ⟨-, -, q3, qk⟩ := HCS.out V h
            exact ⟨h, HI.out.2.trans (h.mono HI.out.2.size), q3, qk, HKS.out.below h, HGR.out.below hV⟩
          clear p0 hcell p3 HG HCL
          go_wp2_with fail
          go_loopw [7] (fun i wi => ∃ r : Nat, r ≤ kl ∧ i = .int .i64 r ∧ Hid ((∀ q, q < r → ColR k (Cl (X t) (L t)) q) ∧ Below w5.heap.size w5 wi)) (fun i _ => kl - (intOf i).toNat)
          case atStart => exact ⟨0, Nat.zero_le _, rfl, fun q hq => absurd hq (Nat.not_lt_zero _), (by first | exact Below.refl _ _ | exact (Below.refl _ _).drew)⟩
          case round =>
            obtain ⟨r, hr, rfl, HJ⟩ := hrel
            obtain ⟨hw6, hs6, q3, qk, hks, hg6⟩ := HC5.out wr HJ.out.2
            by_cases hrn : r < kl
            · have hrI : (r : Int) < (kl : Int) := by omega
              obtain ⟨vb, vo, rfl, hvc⟩ := hks r (by rw [HKL.out]; exact hrn)
              obtain ⟨v, hv⟩ : ∃ v, k.getD r 0 = v := ⟨_, rfl⟩
              rw [hv] at hvc
              have HV := Hid.out (p := Hid _) hv
              have HW6 := Hid.out (p := Hid _) hw6
              clear hv hks hg6 hs6 hw6
              by_cases hlo : v < -1
              · have HNO : Hid (¬ ColP K kn L X kl) := fun h => by
                  have h1 := ((h.2 t htn).2 r hrn).1
                  rw [HKT.out, HV.out] at h1
                  omega
                obtain ⟨-, hs6, -⟩ := HC5.out wr HJ.out.2
                have HWV := Hid.out (p := Hid _) (HAT.out wr hs6).1
                clear hs6
                go_wp2_with fail
                go_ret
                exact ⟨false, rfl, ⟨fun h => (by cases h), fun h => absurd h HNO.out⟩, HWV.out⟩
              · by_cases hhi : 6 ≤ v
                · have HNO : Hid (¬ ColP K kn L X kl) := fun h => by
                    have h1 := ((h.2 t htn).2 r hrn).2.1
                    rw [HKT.out, HV.out] at h1
                    omega
                  obtain ⟨-, hs6, -⟩ := HC5.out wr HJ.out.2
                  have HWV := Hid.out (p := Hid _) (HAT.out wr hs6).1
                  clear hs6
                  go_wp2_with fail
                  go_ret
                  exact ⟨false, rfl, ⟨fun h => (by cases h), fun h => absurd h HNO.out⟩, HWV.out⟩
                · have HVV : Hid (-1 ≤ v ∧ v < 6) := ⟨by omega, by omega⟩
                  go_wp2_with fail
                  clear q3 qk hvc
                  go_loopw [9] (fun i wi => ∃ s : Nat, s ≤ kl ∧ i = .int .i64 s ∧ Hid ((∀ q, q < s → Cl (X t) (L t) r q → v ≠ -1 → v ≠ k.getD q 0) ∧ Below w5.heap.size w5 wi)) (fun i _ => kl - (intOf i).toNat)
                  case atStart => exact ⟨0, Nat.zero_le _, rfl, fun q hq => absurd hq (Nat.not_lt_zero _), HJ.out.2⟩
                  case round =>
                    obtain ⟨s, hs, rfl, HL⟩ := hrel
                    obtain ⟨-, hs6, q3, qk, hks, hg6⟩ := HC5.out wr HL.out.2
                    by_cases hsn : s < kl
                    · have hsI : (s : Int) < (kl : Int) := by omega
                      have HS6 := Hid.out (p := Hid _) hs6
                      by_cases hv0 : 0 ≤ v
                      · have gr := hg6.at hrn
                        have gs := hg6.cell hrn hsn
                        obtain ⟨cbit, hcb⟩ : ∃ x, (P r).getD s false = x := ⟨_, rfl⟩
                        rw [hcb] at gs
                        have HBC : Hid (cbit = true ↔ Cl (X t) (L t) r s) := by rw [← hcb, HLT.out]; exact HCB.out r s hrn hsn
                        obtain ⟨sb, so, hse, hsc⟩ := hks s (by rw [HKL.out]; exact hsn)
                        simp only [Option.some.injEq, Addr.mk.injEq, and_true] at hse
                        obtain ⟨rfl, rfl⟩ := hse
                        obtain ⟨u, hu⟩ : ∃ u, k.getD s 0 = u := ⟨_, rfl⟩
                        rw [hu] at hsc
                        have HU := Hid.out (p := Hid _) hu
                        clear hcb hu hks hg6 hs6
                        cases cbit with
                        | false =>
                          have HNX : Hid (∀ q, q < s + 1 → Cl (X t) (L t) r q → v ≠ -1 → v ≠ k.getD q 0) := fun q hq hcl h => by
                            by_cases e : q = s
                            · rw [e] at hcl
                              have := HBC.out.2 hcl
                              cases this
                            · exact HL.out.1 q (by omega) hcl h
                          go_wp2_with fail
                          go_roundw
                          case rel => exact ⟨s + 1, by omega, by go_num, HNX.out, HL.out.2⟩
                          case measure => simp [intOf]; omega
                        | true =>
                          by_cases hvu : u = v
                          · have hvub : (u == v) = true := by simpa using hvu
                            have HNO : Hid (¬ ColP K kn L X kl) := fun h => by
                              have h1 := ((h.2 t htn).2 r hrn).2.2 s (by rw [HKT.out, HKL.out]; exact hsn) (HBC.out.1 rfl)
                              rw [HKT.out, HV.out, HU.out] at h1
                              exact h1 (by omega) hvu.symm
                            have HWV := Hid.out (p := Hid _) (HAT.out wr HS6.out).1
                            clear hvu
                            go_wp2_with fail
                            go_ret
                            exact ⟨false, rfl, ⟨fun h => (by cases h), fun h => absurd h HNO.out⟩, HWV.out⟩
                          · have hvub : (u == v) = false := by simpa using hvu
                            have HNX : Hid (∀ q, q < s + 1 → Cl (X t) (L t) r q → v ≠ -1 → v ≠ k.getD q 0) := fun q hq hcl h => by
                              by_cases e : q = s
                              · rw [e, HU.out]
                                exact fun e => hvu e.symm
                              · exact HL.out.1 q (by omega) hcl h
                            clear hvu
                            go_wp2_with fail
                            go_roundw
                            case rel => exact ⟨s + 1, by omega, by go_num, HNX.out, HL.out.2⟩
                            case measure => simp [intOf]; omega
                      · have HNX : Hid (∀ q, q < s + 1 → Cl (X t) (L t) r q → v ≠ -1 → v ≠ k.getD q 0) := fun q hq hcl h => by
                          have := HVV.out
                          omega
                        have hv0' : ¬ 0 ≤ v := hv0
                        clear hks hg6 hs6
                        go_wp2_with fail
                        go_roundw
                        case rel => exact ⟨s + 1, by omega, by go_num, HNX.out, HL.out.2⟩
                        case measure => simp [intOf]; omega
                    · obtain rfl : s = kl := by omega
                      have HNX : Hid (∀ q, q < r + 1 → ColR k (Cl (X t) (L t)) q) := fun q hq => by
                        by_cases e : q = r
                        · rw [e]
                          refine ⟨by rw [HV.out]; exact HVV.out.1, by rw [HV.out]; exact HVV.out.2, fun p hp hcl h => ?_⟩
                          rw [HV.out] at h ⊢
                          exact HL.out.1 p (by rw [← HKL.out]; exact hp) hcl h
                        · exact HJ.out.1 q (by omega)
                      clear hks hg6 hs6
                      go_wp2_with fail
                      go_roundw
                      case rel => exact ⟨r + 1, by omega, by go_num, HNX.out, HL.out.2⟩
                      case measure => simp [intOf]; omega
            · obtain rfl : r = kl := by omega
              have HNX : Hid (∀ q, q < t + 1 → ColT (K.getD q []) (Cl (X q) (L q)) r) := fun q hq => by
                by_cases e : q = t
                · rw [e, HKT.out]
                  exact ⟨HKL.out, HJ.out.1⟩
                · exact HI.out.1 q (by omega)
              have HS6 := Hid.out (p := Hid _) hs6
              clear hks hg6 hs6 hw6
              go_wp2_with fail
              go_roundw
              case rel => exact ⟨t + 1, by omega, by go_num, HNX.out, HS6.out⟩
              case measure => simp [intOf]; omega
        · have hlb : ((kl : Int) != (rg : Int)) = true := by simp; omega
          have hlb2 : ((kl : Int) == (rg : Int)) = false := by simp; omega
          have HNO : Hid (¬ ColP K kn L X rg) := fun h => by
            have h1 := (h.2 t htn).1
            rw [HKT.out, HKL.out] at h1
            exact hlen h1
          have HWV := Hid.out (p := Hid _) hwV
          clear hks hk hkl hpV hwV hPV hKV
          go_wp2_with fail
          go_quiet (fail)
          go_wp2_with fail
          go_ret
          exact ⟨false, rfl, ⟨fun h => (by cases h), fun h => absurd h HNO.out⟩, below_drewN HWV.out⟩
      · obtain rfl : t = kn := by omega
        have HWV := Hid.out (p := Hid _) hwV
        clear hpV hwV hPV hKV
        go_wp2_with fail
        go_ret
        exact ⟨true, rfl, ⟨fun _ => ⟨HKN.out, HI.out.1⟩, fun _ => rfl⟩, HWV.out⟩
  · have hkb : ((kn : Int) != (n : Int)) = true := by simp; omega
    have hkb2 : ((kn : Int) == (n : Int)) = false := by simp; omega
    have HNO : Hid (¬ ColP K n L X rg) := fun h => hkk (by rw [← HKN.out]; exact h.1)
    have HB : Hid (Below w.heap.size w (w.alloc (.cells #[.slice ca n cc, .slice wa m wc, .int .i64 lk, .int .i64 rg] 25))) := below_one _ _
    go_wp2_with fail
    go_ret
    exact ⟨false, rfl, ⟨fun h => (by cases h), fun h => absurd h HNO.out⟩, HB.out⟩
end

end Go.Proofs.YtocfocjnnjdcgaaDoor
