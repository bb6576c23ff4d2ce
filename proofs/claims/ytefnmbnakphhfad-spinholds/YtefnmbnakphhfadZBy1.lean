/-
  All that can be come to, as the document goes through it: what holds between two steps, and what put and Put make of it.
-/
import Derived.Test.YtefnmbnakphhfadZBeg
import Derived.Test.YtefnmbnakphhfadZSame
namespace Go.Proofs.Ytefnmbnakphhfad
open Go.RowKit

section
variable {ι : Type} {w w' : World} {vf vf' : ι → Value}
/-- An outcome whose lists lie outside of rows. -/
structure EnO (w : World) (vf : ι → Value) (e : En) : Prop where
  ws : LIo w vf e.wa e.o.ws
  pr : LIo w vf e.pa e.o.pr
  wl : e.o.ws.length ≤ 100000
  pl : e.o.pr.length ≤ 100000
  cap : e.o.ws.length ≤ e.wc
theorem EnO.ok {e : En} (h : EnO w vf e) : EnOk w e := ⟨h.ws.li, h.pr.li, h.wl, h.pl⟩
theorem EnO.moved {e : En} (h : EnO w vf e) (hm : Moved w w' vf vf') : EnO w' vf' e := ⟨h.ws.moved hm, h.pr.moved hm, h.wl, h.pl, h.cap⟩
/-- Outcomes lie outside of rows, one behind the other. -/
def EIo (w : World) (vf : ι → Value) (a : Option Addr) (es : List En) : Prop := ∀ i, i < es.length → ∃ b o, a = some ⟨b, o, none⟩ ∧ (∀ j, j < 3 → w.cell? ⟨b, o + i * 3 + j, none⟩ = some (enC (es.getD i default) j)) ∧ ∀ q, (vf q).ownBlock ≠ some b
theorem EIo.ein {a : Option Addr} {es : List En} (h : EIo w vf a es) : EIn w a es := fun i hi => by
  obtain ⟨b, o, h1, h2, _⟩ := h i hi
  exact ⟨b, o, h1, h2 0 (by omega), h2 1 (by omega), h2 2 (by omega)⟩
theorem EIo.moved {a : Option Addr} {es : List En} (h : EIo w vf a es) (hm : Moved w w' vf vf') : EIo w' vf' a es := fun i hi => by
  obtain ⟨b, o, h1, h2, h3⟩ := h i hi
  exact ⟨b, o, h1, fun j hj => (hm.cell (a := ⟨b, o + i * 3 + j, none⟩) (lt_of_cell (h2 j hj)) h3).trans (h2 j hj), hm.out (lt_of_cell (h2 0 (by omega))) h3⟩
theorem IsO.eio {B : Nat} {a : Option Addr} {len c : Nat} {es : List En} (h : IsO w B a len c es) (ho : ∀ g, (Value.slice a len c).ownBlock = some g → ∀ q, (vf q).ownBlock ≠ some g) : EIo w vf a es := fun i hi => by
  obtain ⟨g, cap, h1, h2, _, _⟩ := fam_block h.own (by have := h.is; omega)
  simp only [Value.slice.injEq] at h1
  refine ⟨g, 0, h1.1, fun j hj => ?_, ho g h2⟩
  have := fam_cell h.own h2 (i := i * 3 + j) (u := enC (es.getD i default) j) (rows3_get hi hj)
  rw [show 0 + i * 3 + j = i * 3 + j by omega]
  exact this
end
theorem insO_len {o : Oc} : ∀ l : List Oc, (insO o l).length ≤ l.length + 1
  | [] => by simp [insO]
  | a :: l => by
    unfold insO
    split
    · simp
    · split
      · have := insO_len (o := o) l
        simp only [List.length_cons]
        omega
      · simp
/-- How many numbers a state is. -/
theorem nums_len {n : Nat} {L : Nat → Nat} {m lk rg : Nat} {mode : Int} {s : Sx} (ho : SOk n L m lk rg mode s) (hN : n ≤ 4) (hm64 : m ≤ 64) (hlk4 : lk ≤ 4) (hrg : rg ≤ 200) (hpl : s.prints.length ≤ 20000) : (numsX s).length ≤ 100000 := by
  have h1 := numA_len s (rg := rg) (fun t ht => ho.regs t (by rw [← ho.ths]; exact ht)) (fun t ht => ho.wlen t (by rw [← ho.ths]; exact ht)) s.ths.length (Nat.le_refl _)
  have h2 : (11 + rg) * s.ths.length ≤ 211 * 4 := Nat.mul_le_mul (by omega) (by rw [ho.ths]; exact hN)
  have h3 := ho.words
  have h4 := ho.own
  show (s.ths.flatMap numT ++ s.words ++ s.own ++ s.prints).length ≤ 100000
  rw [← numA_all]
  simp only [List.length_append]
  omega

/-- A program, and the state ahead of its first step. -/
structure Bc where
  P : Pg
  A : Nat → Option Addr
  L : Nat → Nat
  C : Nat → Nat
  X : Nat → Nat → Nat → Int
  m : Nat
  lk : Nat
  rg : Nat
  s0 : Sx
structure BcOk (c : Bc) (w : World) : Prop where
  n0 : 0 < c.P.n
  cok : COk c.P.n c.L c.X c.m c.lk c.rg
  prog : PIn w c.P.ca c.P.n c.A c.L c.C c.X
  mode : 0 ≤ c.P.mode
abbrev Bc.nx (c : Bc) : Sx → List Sx := nxX c.L c.X c.P.mode
abbrev Bc.outs (c : Bc) : Sx → List Oc := outsX c.L c.X c.P.mode
/-- What holds of a state that was come to as the k-th one. -/
structure StOk (c : Bc) (k : Nat) (s : Sx) : Prop where
  ok : SOk c.P.n c.L c.m c.lk c.rg c.P.mode s
  fell : s.fell = false
  pr : s.prints.length ≤ 2 * k
/-- What holds between two steps: i states were gone through, there are at most N outcomes. -/
structure SpO (c : Bc) (w0 W : World) (pb : Nat) (v : Sr → Value) (d : Sd) (ea : Option Addr) (ec : Nat) (es : List En) (i N : Nat) : Prop where
  sp : SpIn W w0.heap.size c.P pb v d
  ends : d.ends = .slice ea es.length ec
  ein : EIo W v ea es
  eok : ∀ x, x ∈ es → EnO W v x
  sorted : SortedO (es.map En.o)
  wk : Wk c.nx c.outs c.s0 d.ss (fun s => s ∈ d.ss.take i) (fun o => o ∈ es.map En.o)
  ok : ∀ k, k < d.ss.length → StOk c k (d.ss.getD k default)
  cnt : es.length ≤ N
  full : d.full = decide (4000 < d.ss.length)
  few : d.ss.length ≤ 4001
  low : Below w0.heap.size w0 W
  gone : i ≤ d.ss.length
section
variable {c : Bc} {w0 W w' : World} {pb : Nat} {v : Sr → Value} {d : Sd} {ea : Option Addr} {ec : Nat} {es : List En} {i N : Nat}
theorem SpO.below (h : SpO c w0 W pb v d ea ec es i N) (hb : Below W.heap.size W w') : SpO c w0 w' pb v d ea ec es i N :=
  ⟨h.sp.below hb, h.ends, h.ein.moved (Moved.of_below hb), fun x hx => (h.eok x hx).moved (Moved.of_below hb), h.sorted, h.wk, h.ok, h.cnt, h.full, h.few, h.low.trans (hb.mono h.low.size), h.gone⟩
theorem SpO.more (h : SpO c w0 W pb v d ea ec es i N) {N' : Nat} (hN : N ≤ N') : SpO c w0 W pb v d ea ec es i N' :=
  ⟨h.sp, h.ends, h.ein, h.eok, h.sorted, h.wk, h.ok, Nat.le_trans h.cnt hN, h.full, h.few, h.low, h.gone⟩
theorem SpO.mem (_h : SpO c w0 W pb v d ea ec es i N) {k : Nat} (hk : k < d.ss.length) : d.ss.getD k default ∈ d.ss := by
  rw [List.getD_eq_getElem?_getD, List.getElem?_eq_getElem hk]; exact List.getElem_mem hk
/-- What Put leaves. -/
theorem SpO.put_end (h : SpO c w0 W pb v d ea ec es i N) {e : En} {en : Ending} (hq : PutQ W pb e es en w') (he : EnO W v e) {x : Sx} (hx : x ∈ d.ss) (ho : e.o ∈ c.outs x) :
    en = .returned (.tuple #[]) ∧ Moved W w' v v ∧ ∃ d' ea' ec' es', SpO c w0 w' pb v d' ea' ec' es' i (N + 1) ∧ d'.ss = d.ss ∧ d'.sbs = d.sbs ∧ ∀ y, y ∈ es'.map En.o ↔ y = e.o ∨ y ∈ es.map En.o := by
  obtain ⟨rfl, hq⟩ := hq
  refine ⟨rfl, ?_⟩
  rcases hq with ⟨hb, hins⟩ | ⟨w2, a, len, cc, es2, rfl, hb, hI, hm, hall⟩
  · refine ⟨Moved.of_below hb, d, ea, ec, es, (h.below hb).more (by omega), rfl, rfl, fun y => ?_⟩
    rw [← mem_insO, hins]
  · have hM : Moved W (w2.setCell ⟨pb, 4, none⟩ (.slice a len cc)) v v := (Moved.of_below hb).put (r := .box) h.sp.bblk 4 _
    have hM2 : Moved w2 (w2.setCell ⟨pb, 4, none⟩ (.slice a len cc)) v v := (Moved.refl _ _).put (r := .box) h.sp.bblk 4 _
    have hmem : ∀ y, y ∈ es2.map En.o ↔ y = e.o ∨ y ∈ es.map En.o := fun y => by rw [hm]; exact mem_insO
    refine ⟨hM, ⟨d.sbs, d.ss, d.ks, .slice a len cc, d.full⟩, a, cc, es2, ⟨⟨(h.sp.fam.below hb).put (r := .box) h.sp.bblk 4 _ (fun q => by cases q <;> rfl) rfl (fun q hq => by cases q <;> first | rfl | exact absurd rfl hq), h.sp.box, h.sp.len, h.sp.klen, fun k hk => ?_, fun k hk => ?_⟩, ?_, ?_, fun y hy => ?_, ?_, ?_, h.ok, ?_, h.full, h.few, ?_, h.gone⟩, rfl, rfl, hmem⟩
    · obtain ⟨B', v', h1, h2⟩ := h.sp.states k hk
      obtain ⟨h3, h4⟩ := h1.moved h2 hM
      exact ⟨B', v', h3, h4⟩
    · obtain ⟨B', h1, h2⟩ := h.sp.keys k hk
      obtain ⟨h3, h4⟩ := h1.moved h2 hM
      exact ⟨B', h3, h4⟩
    · show Value.slice a len cc = .slice a es2.length cc
      rw [hI.is]
    · refine (IsO.eio hI (fun g hg q e => ?_)).moved hM2
      have h1 := (hI.own.lt g hg).1
      have h2 := h.sp.fam.lt e
      omega
    · rcases hall y hy with rfl | hy
      · exact he.moved hM
      · exact (h.eok y hy).moved hM
    · rw [hm]; exact sorted_insO h.sorted
    · exact h.wk.out hx ho hmem
    · have h1 := insO_len (o := e.o) (es.map En.o)
      rw [← hm, List.length_map, List.length_map] at h1
      have h2 := h.cnt
      omega
    · exact h.low.trans (hM.below h.low.size h.sp.fam.low)
/-- What put leaves. -/
theorem SpO.put_state (h : SpO c w0 W pb v d ea ec es i N) {xb : Nat} {sx : Sx} {en : Ending} (hq : SputQ W w0.heap.size c.P pb v d xb sx en w') (hnf : d.full = false) (hsx : StOk c d.ss.length sx) {x : Sx} (hx : x ∈ d.ss) (ho : sx ∈ c.nx x) :
    en = .returned (.tuple #[]) ∧ ∃ v' d', SpO c w0 w' pb v' d' ea ec es i N ∧ Moved W w' v v' ∧ sx ∈ d'.ss ∧ (∀ t, t ∈ d.ss → t ∈ d'.ss) ∧ d.ss.length ≤ d'.ss.length ∧ ∀ k, k < d.ss.length → d'.ss.getD k default = d.ss.getD k default ∧ d'.sbs.getD k 0 = d.sbs.getD k 0 := by
  obtain ⟨rfl, hq⟩ := hq
  refine ⟨rfl, ?_⟩
  rcases hq with ⟨⟨k, hk, hkk⟩, hb⟩ | ⟨hno, v', ka, kc, hS, hM⟩
  · refine ⟨v, d, h.below hb, Moved.of_below hb, ?_, fun t ht => ht, Nat.le_refl _, fun k _ => ⟨rfl, rfl⟩⟩
    have e := nums_inj (h.ok k hk).ok hsx.ok (by rw [(h.ok k hk).fell, hsx.fell]) hkk
    rw [← e]
    exact h.mem hk
  · have hss : (d.push xb sx ka kc).ss = d.ss ++ [sx] := rfl
    have hnew : sx ∉ d.ss := fun hm => by
      obtain ⟨k, hk, e⟩ := List.getElem_of_mem hm
      refine hno k hk ?_
      unfold keyL
      rw [List.getD_eq_getElem?_getD, List.getElem?_eq_getElem hk]
      exact congrArg numsX e
    have hlen : d.ss.length ≤ 4000 := by
      have := h.full
      rw [hnf] at this
      have := of_decide_eq_false this.symm
      omega
    refine ⟨v', d.push xb sx ka kc, ⟨hS, h.ends, h.ein.moved hM, fun y hy => (h.eok y hy).moved hM, h.sorted, ?_, fun k hk => ?_, h.cnt, ?_, ?_, h.low.trans (hM.below h.low.size h.sp.fam.low), ?_⟩, hM, ?_, fun t ht => ?_, ?_, fun k hk => ⟨push_ss hk, ?_⟩⟩
    · rw [hss]
      refine (h.wk.push hx ho hnew).same (fun s => ?_) (fun _ => Iff.rfl)
      rw [List.take_append_of_le_length h.gone]
    · rw [push_len] at hk
      rcases Nat.lt_or_ge k d.ss.length with h1 | h1
      · rw [push_ss h1]; exact h.ok k h1
      · obtain rfl : k = d.ss.length := by omega
        rw [push_new]
        exact hsx
    · rw [push_len]
      show (d.full || _) = _
      rw [hnf, Bool.false_or]
    · rw [push_len]; omega
    · rw [push_len]; have := h.gone; omega
    · rw [hss]; simp
    · rw [hss]; exact List.mem_append_left _ ht
    · rw [push_len]; omega
    · show (d.sbs ++ [xb]).getD k 0 = _
      simp [List.getD, List.getElem?_append_left (show k < d.sbs.length by rw [h.sp.len]; exact hk)]
/-- put, while there are not too many. -/
theorem SpO.put_any (h : SpO c w0 W pb v d ea ec es i N) (hc : BcOk c w0) {Bx xb : Nat} {vx : Rl → Value} {sx : Sx} (hD : DSt W Bx c.P xb vx sx) (hxo : ∀ r g, (vx r).ownBlock = some g → ∀ q, (v q).ownBlock ≠ some g) (hnf : d.full = false) (hsx : StOk c d.ss.length sx) {x : Sx} (hx : x ∈ d.ss) (ho : sx ∈ c.nx x) :
    Calls Try.prog 37 #[.pointer (some ⟨pb, 0, none⟩), .pointer (some ⟨xb, 0, none⟩)] W fun e w' => e = .returned (.tuple #[]) ∧ ∃ v' d', SpO c w0 w' pb v' d' ea ec es i N ∧ Moved W w' v v' ∧ sx ∈ d'.ss ∧ (∀ t, t ∈ d.ss → t ∈ d'.ss) ∧ d.ss.length ≤ d'.ss.length ∧ ∀ k, k < d.ss.length → d'.ss.getD k default = d.ss.getD k default ∧ d'.sbs.getD k 0 = d.sbs.getD k 0 := by
  have hf := h.few
  refine Calls.mono (sput_any W w0.heap.size c.P pb v d c.L c.m c.lk c.rg Bx xb vx sx h.sp hD hxo hsx.ok hc.n0 hc.cok.n4 hc.cok.m64 hc.cok.lk4 hc.cok.rg2 (by have := hsx.pr; omega) (by omega) (fun k hk => ?_)) (fun e w' hq => h.put_state hq hnf hsx hx ho)
  have := h.ok k hk
  exact nums_len this.ok hc.cok.n4 hc.cok.m64 hc.cok.lk4 hc.cok.rg2 (by have := this.pr; omega)
theorem SpO.Put_any (h : SpO c w0 W pb v d ea ec es i N) {e : En} (he : EnO W v e) {x : Sx} (hx : x ∈ d.ss) (ho : e.o ∈ c.outs x) (hi4 : i ≤ 4000) (hN : N ≤ 16 * i + 16) :
    Calls Try.prog 40 #[.pointer (some ⟨pb, 0, none⟩), enV e] W fun en w' => en = .returned (.tuple #[]) ∧ Moved W w' v v ∧ ∃ d' ea' ec' es', SpO c w0 w' pb v d' ea' ec' es' i (N + 1) ∧ d'.ss = d.ss ∧ d'.sbs = d.sbs ∧ ∀ y, y ∈ es'.map En.o ↔ y = e.o ∨ y ∈ es.map En.o := by
  have c4 := h.sp.c4
  rw [h.ends] at c4
  exact Calls.mono (oput_any W pb ea ec es e c4 (h.sp.fam.frozen h.sp.bblk 4) h.ein.ein (fun x hx => (h.eok x hx).ok) he.ok h.sorted (by have := h.cnt; omega)) (fun en w' hq => h.put_end hq he hx ho)
/-- One state has been gone through. -/
theorem SpO.goneOn (h : SpO c w0 W pb v d ea ec es i N) (hi : i < d.ss.length) (hn : ∀ t, t ∈ c.nx (d.ss.getD i default) → t ∈ d.ss) (ho : ∀ o, o ∈ c.outs (d.ss.getD i default) → o ∈ es.map En.o) : SpO c w0 W pb v d ea ec es (i + 1) N :=
  ⟨h.sp, h.ends, h.ein, h.eok, h.sorted, h.wk.gone (h.mem hi) hn ho (fun s hs => by
    rw [List.take_add_one, List.getElem?_eq_getElem hi] at hs
    rcases List.mem_append.mp hs with hs | hs
    · exact Or.inr hs
    · refine Or.inl ?_
      rw [List.getD_eq_getElem?_getD, List.getElem?_eq_getElem hi]
      exact List.mem_singleton.mp hs), h.ok, h.cnt, h.full, h.few, h.low, hi⟩
theorem SpO.start (hS : SpIn W w0.heap.size c.P pb v d0) (hb : Below w0.heap.size w0 W) (hsx : StOk c 0 c.s0) {xb : Nat} {en : Ending} (hq : SputQ W w0.heap.size c.P pb v d0 xb c.s0 en w') : en = .returned (.tuple #[]) ∧ ∃ v' d', SpO c w0 w' pb v' d' none 0 [] 0 0 := by
  obtain ⟨rfl, hq⟩ := hq
  refine ⟨rfl, ?_⟩
  rcases hq with ⟨⟨k, hk, _⟩, _⟩ | ⟨_, v', ka, kc, hS', hM⟩
  · exact absurd hk (Nat.not_lt_zero _)
  · refine ⟨v', d0.push xb c.s0 ka kc, hS', rfl, fun i hi => absurd hi (Nat.not_lt_zero _), fun x hx => (by cases hx), List.Pairwise.nil, ?_, fun k hk => ?_, Nat.le_refl _, rfl, by rw [push_len]; decide, hb.trans (hM.below hb.size hS.fam.low), Nat.zero_le _⟩
    · exact Wk.begin.same (fun s => by simp) (fun o => by simp)
    · rw [push_len] at hk
      obtain rfl : k = 0 := by have : d0.ss.length = 0 := rfl; omega
      exact hsx
/-- What is told at the end. -/
theorem SpO.told (h : SpO c w0 W pb v d ea ec es i N) (hi : d.full = false → i = d.ss.length) : Told c.nx c.outs c.s0 4000 d.full (es.map En.o) ∧ (d.full = false → ∀ s, s ∈ d.ss ↔ Rch c.nx c.s0 s) := by
  cases hf : d.full with
  | true =>
    have := h.full
    rw [hf] at this
    exact ⟨h.wk.full _ (of_decide_eq_true this.symm), fun h => by cases h⟩
  | false =>
    have h1 := h.full
    rw [hf] at h1
    have h2 := of_decide_eq_false h1.symm
    have hP : ∀ s, s ∈ d.ss → s ∈ d.ss.take i := fun s hs => by rw [hi hf, List.take_length]; exact hs
    exact ⟨h.wk.told hP h.sorted (fun o => Iff.rfl) (by omega), fun _ => (h.wk.whole hP).1⟩
theorem SpO.stB (h : SpO c w0 W pb v d ea ec es i N) (hn : 0 < d.ss.length) : ∃ hb hc, v .st = .slice (some ⟨hb, 0, none⟩) d.ss.length hc ∧ (v .st).ownBlock = some hb := by
  obtain ⟨g, c, h1, h2, _, _⟩ := fam_block (h.sp.fam.own .st) (by exact hn)
  exact ⟨g, c, h1, h2⟩
theorem SpO.stC (h : SpO c w0 W pb v d ea ec es i N) {hb k : Nat} (e : (v .st).ownBlock = some hb) (hk : k < d.ss.length) : W.cell? ⟨hb, k, none⟩ = some (.pointer (some ⟨d.sbs.getD k 0, 0, none⟩)) := by
  refine h.sp.fam.cell e ?_
  show (d.sbs.map fun b => Value.pointer (some ⟨b, 0, none⟩))[k]? = _
  have hk' : k < d.sbs.length := by rw [h.sp.len]; exact hk
  rw [List.getElem?_map, List.getElem?_eq_getElem hk', List.getD_eq_getElem?_getD, List.getElem?_eq_getElem hk']
  rfl
end
/-- A state's words and prints as an outcome's. -/
theorem dst_eno {ι : Type} {W : World} {vf : ι → Value} {B : Nat} {P : Pg} {xb : Nat} {vx : Rl → Value} {s : Sx} (hD : DSt W B P xb vx s) (ho : ∀ r g, (vx r).ownBlock = some g → ∀ q, (vf q).ownBlock ≠ some g) (st : Int) (hw : s.words.length ≤ 100000) (hp : s.prints.length ≤ 100000) :
    ∃ wa wc pa pc, vx .words = .slice wa s.words.length wc ∧ vx .prints = .slice pa s.prints.length pc ∧ EnO W vf ⟨⟨st, s.words, s.prints⟩, wa, wc, pa, pc⟩ ∧ EnO W vf ⟨⟨st, [], s.prints⟩, none, 0, pa, pc⟩ := by
  obtain ⟨wa, wc, h1⟩ := hD.wordsV
  obtain ⟨pa, pc, h2⟩ := hD.printsV
  have lw : LIo W vf wa s.words := fun i hi => by
    obtain ⟨g, c, e1, e2, _⟩ := hD.wordsB (by omega)
    rw [h1] at e1
    simp only [Value.slice.injEq] at e1
    exact ⟨g, 0, e1.1, by simpa using hD.word e2 hi, ho _ g e2⟩
  have lp : LIo W vf pa s.prints := fun i hi => by
    obtain ⟨g, c, e1, e2, _, _⟩ := fam_block (hD.fam.own .prints) (by show 0 < s.prints.length; omega)
    rw [h2] at e1
    simp only [Value.slice.injEq] at e1
    exact ⟨g, 0, e1.1, by simpa using hD.fam.cell e2 (intsV_at hi), ho _ g e2⟩
  have hcap : s.words.length ≤ wc := by
    have h := (hD.fam.own .words).2
    rw [h1] at h
    rcases h with ⟨h, _⟩ | ⟨g, cap, cur, h, _, _, h3, _⟩
    · simp only [Value.slice.injEq] at h
      omega
    · simp only [Value.slice.injEq] at h
      omega
  exact ⟨wa, wc, pa, pc, h1, h2, ⟨lw, lp, hw, hp, hcap⟩, ⟨fun i hi => absurd hi (Nat.not_lt_zero _), lp, Nat.zero_le _, hp, Nat.zero_le _⟩⟩

end Go.Proofs.Ytefnmbnakphhfad
