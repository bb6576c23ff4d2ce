/-
  A space that is being begun: its heads, one behind the other.
  All that can be come to, as the document goes through it: what holds between two steps, and what put and Put make of it.
  All values go one way on, by the program.
  What an order becomes by what is known, by the program.
-/
import Derived.Test.YtkailbdjilkneaaDoorZPutS
import Derived.Test.YtkailbdjilkneaaDoorWorkP
import Derived.Test.YtkailbdjilkneaaDoorOptN
import Derived.Test.YtkailbdjilkneaaDoorOptS
namespace Go.Proofs.YtkailbdjilkneaaDoor
section
open Go.RowKit

/-- A space of nothing. -/
def d0 : Sd := ⟨[], [], [], nilV, false⟩
def bN (i : Nat) : Sr → Nat
  | .box => 1
  | .hd => i
  | _ => 0
def bX (v : Sr → Value) (i : Nat) : Sr → List Value
  | .box => [v .st, v .ks, v .hd, v .bf, nilV, .bool false]
  | .hd => intsV (List.replicate i (-1))
  | _ => []
/-- A space with i heads. -/
structure SpB (w W : World) (B pb i : Nat) : Prop where
  ex : ∃ v, Fam W B sTy sSz v (bN i) (bX v i) ∧ v .box = boxV pb
  below : Below B w W
theorem SpB.start (w : World) : SpB w (w.alloc (.cells #[nilV, nilV, nilV, nilV, nilV, .bool false] 42)) w.heap.size w.heap.size 0 := by
  refine ⟨⟨fun q => if q = .box then boxV w.heap.size else nilV, ⟨fun r => ?_, fun r q g hr hq => ?_⟩, rfl⟩, (Below.refl _ _).alloc (Nat.le_refl _) _⟩
  · cases r with
    | box => exact fam_box (xs := [nilV, nilV, nilV, nilV, nilV, .bool false]) (Nat.le_refl _) (heap_alloc_new _ _)
    | st => exact World.ownsRow_nil _ _ _ _
    | ks => exact World.ownsRow_nil _ _ _ _
    | hd => exact World.ownsRow_nil _ _ _ _
    | bf => exact World.ownsRow_nil _ _ _ _
  · have h1 : ∀ x : Sr, ((if x = .box then boxV w.heap.size else nilV : Value)).ownBlock = some g → x = .box := fun x hx => by
      by_cases e : x = .box
      · exact e
      · rw [if_neg e] at hx; simp [Value.ownBlock] at hx
    rw [h1 r hr, h1 q hq]
theorem SpB.push {w W : World} {B pb i : Nat} (h : SpB w W B pb i) (hi : i ≤ 5000) (hB : B ≤ W.heap.size) :
    ∃ a c g cap w3, W.cell? ⟨pb, 2, none⟩ = some (.slice a i c) ∧ (AppS #[23, 23] 23 #[.slice a i c, .slice (some ⟨W.heap.size, 0, none⟩) 1 1]).run Tryd.prog (W.alloc (.cells #[.int .i64 (-1)] 3)) = .ok (.slice (some ⟨g, 0, none⟩) (i + 1) cap) w3 ∧ w3.cell? ⟨pb, 2, none⟩ = some (.slice a i c) ∧ w3.frozen? ⟨pb, 2, none⟩ = false ∧
      Hid (SpB w (w3.setCell ⟨pb, 2, none⟩ (.slice (some ⟨g, 0, none⟩) (i + 1) cap)) B pb (i + 1)) := by
  obtain ⟨⟨v, hF, hbx⟩, hb⟩ := h
  have pbk : (v .box).ownBlock = some pb := by rw [hbx]; rfl
  obtain ⟨a, c, hv⟩ := fam_form (hF.own .hd)
  have hbn : bN i .hd = i := rfl
  rw [hbn] at hv
  obtain ⟨g, cap, w3, r1, o1, k1, a1⟩ := app_row (T := 23) Tryd.underlying23 infoI rfl (by omega) (hF.own .hd) (Below.refl _ W) hB 1 #[.int .i64 (-1)] rfl (by simp [Value.oneCell']) (by omega) (by rw [hbn]; omega) (by omega)
  rw [hbn] at r1 o1
  have hbd : Below W.heap.size W (W.alloc (.cells #[.int .i64 (-1)] 3)) := (Below.refl _ _).alloc (Nat.le_refl _) _
  obtain ⟨y, hy⟩ : ∃ y : Value, y = .slice (some ⟨g, 0, none⟩) (i + 1) cap := ⟨_, rfl⟩
  have G := (hF.below hbd).grew (r := .hd) o1 k1 a1 (by simp)
  rw [← hy] at G
  have pk : (upd v Sr.hd y .box).ownBlock = some pb := by rw [upd_ne _ _ (by decide)]; exact pbk
  have F := G.store (r := .box) (g := pb) pk 2 y
  have M := ((Moved.of_below hbd (v := v)).grow (r := .hd) (m := i + 1) (c := cap) k1 a1 (by simp)).put (r := .box) (g := pb) (by rw [upd_ne _ _ (by decide)]; exact pbk) 2 y
  rw [hv] at r1
  refine ⟨a, c, g, cap, w3, (hF.cell pbk rfl).trans (congrArg some hv), r1, (G.cell pk rfl).trans (congrArg some hv), G.frozen pk 2, ?_⟩
  rw [← hy]
  refine ⟨⟨upd v Sr.hd y, F.same (fun q => ?_) (fun q => ?_), by rw [upd_ne _ _ (by decide)]; exact hbx⟩, hb.trans (M.below hB (fun r g hg => hF.low r g hg))⟩
  · cases q <;> rfl
  · cases q with
    | box => rfl
    | hd =>
      show intsV (List.replicate (i + 1) (-1)) = intsV (List.replicate i (-1)) ++ [.int .i64 (-1)]
      rw [List.replicate_succ']
      simp [intsV]
    | st => rfl
    | ks => rfl
    | bf => rfl
theorem heads_none (f : Nat → Nat) (N : Nat) : (List.range N).map (fun h => lastS f h 0) = List.replicate N (-1) := by
  rw [List.eq_replicate_iff]
  refine ⟨by simp, fun x hx => ?_⟩
  obtain ⟨k, _, rfl⟩ := List.mem_map.mp hx
  rfl
theorem SpB.done {w W : World} {B pb : Nat} (h : SpB w W B pb 4096) (P : Pg) : ∃ v, SpIn W B P pb v d0 := by
  obtain ⟨⟨v, hF, hbx⟩, _⟩ := h
  refine ⟨v, hF.same (fun q => by cases q <;> rfl) (fun q => ?_), hbx, rfl, rfl, fun i hi => absurd hi (Nat.not_lt_zero _), fun i hi => absurd hi (Nat.not_lt_zero _)⟩
  cases q with
  | box => rfl
  | st => rfl
  | ks => rfl
  | bf => rfl
  | hd =>
    exact congrArg intsV (heads_none (sumsD d0) 4096)
end

section
open Go.RowKit

section
variable {ι : Type} {w w' : World} {vf vf' : ι → Value}
/-- An outcome whose lists lie outside of rows. -/
structure EnO (w : World) (vf : ι → Value) (e : En) : Prop where
  ws : LIo w vf e.wa e.o.ws
  pr : LIo w vf e.pa e.o.pr
  wl : e.o.ws.length ≤ 100000
  pl : e.o.pr.length ≤ 100000
  cap : e.o.ws.length ≤ e.wc
theorem EnO.ok {e : En} (h : EnO w vf e) : EnOk w e := ⟨h.ws.li, h.pr.li, h.wl, h.pl⟩
theorem EnO.moved {e : En} (h : EnO w vf e) (hm : Moved w w' vf vf') : EnO w' vf' e := ⟨h.ws.moved hm, h.pr.moved hm, h.wl, h.pl, h.cap⟩
/-- Outcomes lie outside of rows, one behind the other. -/
def EIo (w : World) (vf : ι → Value) (a : Option Addr) (es : List En) : Prop := ∀ i, i < es.length → ∃ b o, a = some ⟨b, o, none⟩ ∧ (∀ j, j < 3 → w.cell? ⟨b, o + i * 3 + j, none⟩ = some (enC (es.getD i default) j)) ∧ ∀ q, (vf q).ownBlock ≠ some b
theorem EIo.ein {a : Option Addr} {es : List En} (h : EIo w vf a es) : EIn w a es := fun i hi => by
  obtain ⟨b, o, h1, h2, _⟩ := h i hi
  exact ⟨b, o, h1, h2 0 (by omega), h2 1 (by omega), h2 2 (by omega)⟩
theorem EIo.moved {a : Option Addr} {es : List En} (h : EIo w vf a es) (hm : Moved w w' vf vf') : EIo w' vf' a es := fun i hi => by
  obtain ⟨b, o, h1, h2, h3⟩ := h i hi
  exact ⟨b, o, h1, fun j hj => (hm.cell (a := ⟨b, o + i * 3 + j, none⟩) (lt_of_cell (h2 j hj)) h3).trans (h2 j hj), hm.out (lt_of_cell (h2 0 (by omega))) h3⟩
theorem IsO.eio {B : Nat} {a : Option Addr} {len c : Nat} {es : List En} (h : IsO w B a len c es) (ho : ∀ g, (Value.slice a len c).ownBlock = some g → ∀ q, (vf q).ownBlock ≠ some g) : EIo w vf a es := fun i hi => by
  obtain ⟨g, cap, h1, h2, _, _⟩ := fam_block h.own (by have := h.is; omega)
  simp only [Value.slice.injEq] at h1
  refine ⟨g, 0, h1.1, fun j hj => ?_, ho g h2⟩
  have := fam_cell h.own h2 (i := i * 3 + j) (u := enC (es.getD i default) j) (rows3_get hi hj)
  rw [show 0 + i * 3 + j = i * 3 + j by omega]
  exact this
end
theorem insO_len {o : Oc} : ∀ l : List Oc, (insO o l).length ≤ l.length + 1
  | [] => by simp [insO]
  | a :: l => by
    unfold insO
    split
    · simp
    · split
      · have := insO_len (o := o) l
        simp only [List.length_cons]
        omega
      · simp
/-- How many numbers a state is. -/
theorem nums_len {n : Nat} {L : Nat → Nat} {m lk rg : Nat} {mode : Int} {s : Sx} (ho : SOk n L m lk rg mode s) (hN : n ≤ 4) (hm64 : m ≤ 64) (hlk4 : lk ≤ 4) (hrg : rg ≤ 200) (hpl : s.prints.length ≤ 20000) : (numsX s).length ≤ 100000 := by
  have h1 := numA_len s (rg := rg) (fun t ht => ho.regs t (by rw [← ho.ths]; exact ht)) (fun t ht => ho.wlen t (by rw [← ho.ths]; exact ht)) s.ths.length (Nat.le_refl _)
  have h2 : (11 + rg) * s.ths.length ≤ 211 * 4 := Nat.mul_le_mul (by omega) (by rw [ho.ths]; exact hN)
  have h3 := ho.words
  have h4 := ho.own
  show (s.ths.flatMap numT ++ s.words ++ s.own ++ s.prints).length ≤ 100000
  rw [← numA_all]
  simp only [List.length_append]
  omega

/-- A program, and the state ahead of its first step. -/
structure Bc where
  P : Pg
  A : Nat → Option Addr
  L : Nat → Nat
  C : Nat → Nat
  X : Nat → Nat → Nat → Int
  m : Nat
  lk : Nat
  rg : Nat
  s0 : Sx
structure BcOk (c : Bc) (w : World) : Prop where
  n0 : 0 < c.P.n
  cok : COk c.P.n c.L c.X c.m c.lk c.rg
  prog : PIn w c.P.ca c.P.n c.A c.L c.C c.X
  mode : 0 ≤ c.P.mode
abbrev Bc.nx (c : Bc) : Sx → List Sx := nxX c.L c.X c.P.mode
abbrev Bc.outs (c : Bc) : Sx → List Oc := outsX c.L c.X c.P.mode
/-- What holds of a state that was come to as the k-th one. -/
structure StOk (c : Bc) (k : Nat) (s : Sx) : Prop where
  ok : SOk c.P.n c.L c.m c.lk c.rg c.P.mode s
  fell : s.fell = false
  pr : s.prints.length ≤ 2 * k
/-- What holds between two steps: i states were gone through, there are at most N outcomes. -/
structure SpO (c : Bc) (w0 W : World) (pb : Nat) (v : Sr → Value) (d : Sd) (ea : Option Addr) (ec : Nat) (es : List En) (i N : Nat) : Prop where
  sp : SpIn W w0.heap.size c.P pb v d
  ends : d.ends = .slice ea es.length ec
  ein : EIo W v ea es
  eok : ∀ x, x ∈ es → EnO W v x
  sorted : SortedO (es.map En.o)
  wk : Wk c.nx c.outs c.s0 d.ss (fun s => s ∈ d.ss.take i) (fun o => o ∈ es.map En.o)
  ok : ∀ k, k < d.ss.length → StOk c k (d.ss.getD k default)
  cnt : es.length ≤ N
  full : d.full = decide (4000 < d.ss.length)
  few : d.ss.length ≤ 4001
  low : Below w0.heap.size w0 W
  gone : i ≤ d.ss.length
section
variable {c : Bc} {w0 W w' : World} {pb : Nat} {v : Sr → Value} {d : Sd} {ea : Option Addr} {ec : Nat} {es : List En} {i N : Nat}
theorem SpO.below (h : SpO c w0 W pb v d ea ec es i N) (hb : Below W.heap.size W w') : SpO c w0 w' pb v d ea ec es i N :=
  ⟨h.sp.below hb, h.ends, h.ein.moved (Moved.of_below hb), fun x hx => (h.eok x hx).moved (Moved.of_below hb), h.sorted, h.wk, h.ok, h.cnt, h.full, h.few, h.low.trans (hb.mono h.low.size), h.gone⟩
theorem SpO.more (h : SpO c w0 W pb v d ea ec es i N) {N' : Nat} (hN : N ≤ N') : SpO c w0 W pb v d ea ec es i N' :=
  ⟨h.sp, h.ends, h.ein, h.eok, h.sorted, h.wk, h.ok, Nat.le_trans h.cnt hN, h.full, h.few, h.low, h.gone⟩
theorem SpO.mem (_h : SpO c w0 W pb v d ea ec es i N) {k : Nat} (hk : k < d.ss.length) : d.ss.getD k default ∈ d.ss := by
  rw [List.getD_eq_getElem?_getD, List.getElem?_eq_getElem hk]; exact List.getElem_mem hk
/-- What Put leaves. -/
theorem SpO.put_end (h : SpO c w0 W pb v d ea ec es i N) {e : En} {en : Ending} (hq : PutQ W pb e es en w') (he : EnO W v e) {x : Sx} (hx : x ∈ d.ss) (ho : e.o ∈ c.outs x) :
    en = .returned (.tuple #[]) ∧ Moved W w' v v ∧ ∃ d' ea' ec' es', SpO c w0 w' pb v d' ea' ec' es' i (N + 1) ∧ d'.ss = d.ss ∧ d'.sbs = d.sbs ∧ ∀ y, y ∈ es'.map En.o ↔ y = e.o ∨ y ∈ es.map En.o := by
  obtain ⟨rfl, hq⟩ := hq
  refine ⟨rfl, ?_⟩
  rcases hq with ⟨hb, hins⟩ | ⟨w2, a, len, cc, es2, rfl, hb, hI, hm, hall⟩
  · refine ⟨Moved.of_below hb, d, ea, ec, es, (h.below hb).more (by omega), rfl, rfl, fun y => ?_⟩
    rw [← mem_insO, hins]
  · have hM : Moved W (w2.setCell ⟨pb, 4, none⟩ (.slice a len cc)) v v := (Moved.of_below hb).put (r := .box) h.sp.bblk 4 _
    have hM2 : Moved w2 (w2.setCell ⟨pb, 4, none⟩ (.slice a len cc)) v v := (Moved.refl _ _).put (r := .box) h.sp.bblk 4 _
    have hmem : ∀ y, y ∈ es2.map En.o ↔ y = e.o ∨ y ∈ es.map En.o := fun y => by rw [hm]; exact mem_insO
    refine ⟨hM, ⟨d.sbs, d.ss, d.ks, .slice a len cc, d.full⟩, a, cc, es2, ⟨⟨(h.sp.fam.below hb).put (r := .box) h.sp.bblk 4 _ (fun q => by cases q <;> rfl) rfl (fun q hq => by cases q <;> first | rfl | exact absurd rfl hq), h.sp.box, h.sp.len, h.sp.klen, fun k hk => ?_, fun k hk => ?_⟩, ?_, ?_, fun y hy => ?_, ?_, ?_, h.ok, ?_, h.full, h.few, ?_, h.gone⟩, rfl, rfl, hmem⟩
    · obtain ⟨B', v', h1, h2⟩ := h.sp.states k hk
      obtain ⟨h3, h4⟩ := h1.moved h2 hM
      exact ⟨B', v', h3, h4⟩
    · obtain ⟨B', h1, h2⟩ := h.sp.keys k hk
      obtain ⟨h3, h4⟩ := h1.moved h2 hM
      exact ⟨B', h3, h4⟩
    · show Value.slice a len cc = .slice a es2.length cc
      rw [hI.is]
    · refine (IsO.eio hI (fun g hg q e => ?_)).moved hM2
      have h1 := (hI.own.lt g hg).1
      have h2 := h.sp.fam.lt e
      omega
    · rcases hall y hy with rfl | hy
      · exact he.moved hM
      · exact (h.eok y hy).moved hM
    · rw [hm]; exact sorted_insO h.sorted
    · exact h.wk.out hx ho hmem
    · have h1 := insO_len (o := e.o) (es.map En.o)
      rw [← hm, List.length_map, List.length_map] at h1
      have h2 := h.cnt
      omega
    · exact h.low.trans (hM.below h.low.size h.sp.fam.low)
/-- What put leaves. -/
theorem SpO.put_state (h : SpO c w0 W pb v d ea ec es i N) {xb : Nat} {sx : Sx} {en : Ending} (hq : SputQ W w0.heap.size c.P pb v d xb sx en w') (hnf : d.full = false) (hsx : StOk c d.ss.length sx) {x : Sx} (hx : x ∈ d.ss) (ho : sx ∈ c.nx x) :
    en = .returned (.tuple #[]) ∧ ∃ v' d', SpO c w0 w' pb v' d' ea ec es i N ∧ Moved W w' v v' ∧ sx ∈ d'.ss ∧ (∀ t, t ∈ d.ss → t ∈ d'.ss) ∧ d.ss.length ≤ d'.ss.length ∧ ∀ k, k < d.ss.length → d'.ss.getD k default = d.ss.getD k default ∧ d'.sbs.getD k 0 = d.sbs.getD k 0 := by
  obtain ⟨rfl, hq⟩ := hq
  refine ⟨rfl, ?_⟩
  rcases hq with ⟨⟨k, hk, hkk⟩, hb⟩ | ⟨hno, v', ka, kc, hS, hM⟩
  · refine ⟨v, d, h.below hb, Moved.of_below hb, ?_, fun t ht => ht, Nat.le_refl _, fun k _ => ⟨rfl, rfl⟩⟩
    have e := nums_inj (h.ok k hk).ok hsx.ok (by rw [(h.ok k hk).fell, hsx.fell]) hkk
    rw [← e]
    exact h.mem hk
  · have hss : (d.push xb sx ka kc).ss = d.ss ++ [sx] := rfl
    have hnew : sx ∉ d.ss := fun hm => by
      obtain ⟨k, hk, e⟩ := List.getElem_of_mem hm
      refine hno k hk ?_
      unfold keyL
      rw [List.getD_eq_getElem?_getD, List.getElem?_eq_getElem hk]
      exact congrArg numsX e
    have hlen : d.ss.length ≤ 4000 := by
      have := h.full
      rw [hnf] at this
      have := of_decide_eq_false this.symm
      omega
    refine ⟨v', d.push xb sx ka kc, ⟨hS, h.ends, h.ein.moved hM, fun y hy => (h.eok y hy).moved hM, h.sorted, ?_, fun k hk => ?_, h.cnt, ?_, ?_, h.low.trans (hM.below h.low.size h.sp.fam.low), ?_⟩, hM, ?_, fun t ht => ?_, ?_, fun k hk => ⟨push_ss hk, ?_⟩⟩
    · rw [hss]
      refine (h.wk.push hx ho hnew).same (fun s => ?_) (fun _ => Iff.rfl)
      rw [List.take_append_of_le_length h.gone]
    · rw [push_len] at hk
      rcases Nat.lt_or_ge k d.ss.length with h1 | h1
      · rw [push_ss h1]; exact h.ok k h1
      · obtain rfl : k = d.ss.length := by omega
        rw [push_new]
        exact hsx
    · rw [push_len]
      show (d.full || _) = _
      rw [hnf, Bool.false_or]
    · rw [push_len]; omega
    · rw [push_len]; have := h.gone; omega
    · rw [hss]; simp
    · rw [hss]; exact List.mem_append_left _ ht
    · rw [push_len]; omega
    · show (d.sbs ++ [xb]).getD k 0 = _
      simp [List.getD, List.getElem?_append_left (show k < d.sbs.length by rw [h.sp.len]; exact hk)]
/-- put, while there are not too many. -/
theorem SpO.put_any (h : SpO c w0 W pb v d ea ec es i N) (hc : BcOk c w0) {Bx xb : Nat} {vx : Rl → Value} {sx : Sx} (hD : DSt W Bx c.P xb vx sx) (hxo : ∀ r g, (vx r).ownBlock = some g → ∀ q, (v q).ownBlock ≠ some g) (hnf : d.full = false) (hsx : StOk c d.ss.length sx) {x : Sx} (hx : x ∈ d.ss) (ho : sx ∈ c.nx x) :
    Calls Tryd.prog 76 #[.pointer (some ⟨pb, 0, none⟩), .pointer (some ⟨xb, 0, none⟩)] W fun e w' => e = .returned (.tuple #[]) ∧ ∃ v' d', SpO c w0 w' pb v' d' ea ec es i N ∧ Moved W w' v v' ∧ sx ∈ d'.ss ∧ (∀ t, t ∈ d.ss → t ∈ d'.ss) ∧ d.ss.length ≤ d'.ss.length ∧ ∀ k, k < d.ss.length → d'.ss.getD k default = d.ss.getD k default ∧ d'.sbs.getD k 0 = d.sbs.getD k 0 := by
  have hf := h.few
  refine Calls.mono (sput_any W w0.heap.size c.P pb v d c.L c.m c.lk c.rg Bx xb vx sx h.sp hD hxo hsx.ok hc.n0 hc.cok.n4 hc.cok.m64 hc.cok.lk4 hc.cok.rg2 (by have := hsx.pr; omega) (by omega) (fun k hk => ?_)) (fun e w' hq => h.put_state hq hnf hsx hx ho)
  have := h.ok k hk
  exact nums_len this.ok hc.cok.n4 hc.cok.m64 hc.cok.lk4 hc.cok.rg2 (by have := this.pr; omega)
theorem SpO.Put_any (h : SpO c w0 W pb v d ea ec es i N) {e : En} (he : EnO W v e) {x : Sx} (hx : x ∈ d.ss) (ho : e.o ∈ c.outs x) (hi4 : i ≤ 4000) (hN : N ≤ 16 * i + 16) :
    Calls Tryd.prog 79 #[.pointer (some ⟨pb, 0, none⟩), enV e] W fun en w' => en = .returned (.tuple #[]) ∧ Moved W w' v v ∧ ∃ d' ea' ec' es', SpO c w0 w' pb v d' ea' ec' es' i (N + 1) ∧ d'.ss = d.ss ∧ d'.sbs = d.sbs ∧ ∀ y, y ∈ es'.map En.o ↔ y = e.o ∨ y ∈ es.map En.o := by
  have c4 := h.sp.c4
  rw [h.ends] at c4
  exact Calls.mono (oput_any W pb ea ec es e c4 (h.sp.fam.frozen h.sp.bblk 4) h.ein.ein (fun x hx => (h.eok x hx).ok) he.ok h.sorted (by have := h.cnt; omega)) (fun en w' hq => h.put_end hq he hx ho)
/-- One state has been gone through. -/
theorem SpO.goneOn (h : SpO c w0 W pb v d ea ec es i N) (hi : i < d.ss.length) (hn : ∀ t, t ∈ c.nx (d.ss.getD i default) → t ∈ d.ss) (ho : ∀ o, o ∈ c.outs (d.ss.getD i default) → o ∈ es.map En.o) : SpO c w0 W pb v d ea ec es (i + 1) N :=
  ⟨h.sp, h.ends, h.ein, h.eok, h.sorted, h.wk.gone (h.mem hi) hn ho (fun s hs => by
    rw [List.take_add_one, List.getElem?_eq_getElem hi] at hs
    rcases List.mem_append.mp hs with hs | hs
    · exact Or.inr hs
    · refine Or.inl ?_
      rw [List.getD_eq_getElem?_getD, List.getElem?_eq_getElem hi]
      exact List.mem_singleton.mp hs), h.ok, h.cnt, h.full, h.few, h.low, hi⟩
theorem SpO.start (hS : SpIn W w0.heap.size c.P pb v d0) (hb : Below w0.heap.size w0 W) (hsx : StOk c 0 c.s0) {xb : Nat} {en : Ending} (hq : SputQ W w0.heap.size c.P pb v d0 xb c.s0 en w') : en = .returned (.tuple #[]) ∧ ∃ v' d', SpO c w0 w' pb v' d' none 0 [] 0 0 := by
  obtain ⟨rfl, hq⟩ := hq
  refine ⟨rfl, ?_⟩
  rcases hq with ⟨⟨k, hk, _⟩, _⟩ | ⟨_, v', ka, kc, hS', hM⟩
  · exact absurd hk (Nat.not_lt_zero _)
  · refine ⟨v', d0.push xb c.s0 ka kc, hS', rfl, fun i hi => absurd hi (Nat.not_lt_zero _), fun x hx => (by cases hx), List.Pairwise.nil, ?_, fun k hk => ?_, Nat.le_refl _, rfl, by rw [push_len]; decide, hb.trans (hM.below hb.size hS.fam.low), Nat.zero_le _⟩
    · exact Wk.begin.same (fun s => by simp) (fun o => by simp)
    · rw [push_len] at hk
      obtain rfl : k = 0 := by have : d0.ss.length = 0 := rfl; omega
      exact hsx
/-- What is told at the end. -/
theorem SpO.told (h : SpO c w0 W pb v d ea ec es i N) (hi : d.full = false → i = d.ss.length) : Told c.nx c.outs c.s0 4000 d.full (es.map En.o) ∧ (d.full = false → ∀ s, s ∈ d.ss ↔ Rch c.nx c.s0 s) := by
  cases hf : d.full with
  | true =>
    have := h.full
    rw [hf] at this
    exact ⟨h.wk.full _ (of_decide_eq_true this.symm), fun h => by cases h⟩
  | false =>
    have h1 := h.full
    rw [hf] at h1
    have h2 := of_decide_eq_false h1.symm
    have hP : ∀ s, s ∈ d.ss → s ∈ d.ss.take i := fun s hs => by rw [hi hf, List.take_length]; exact hs
    exact ⟨h.wk.told hP h.sorted (fun o => Iff.rfl) (by omega), fun _ => (h.wk.whole hP).1⟩
theorem SpO.stB (h : SpO c w0 W pb v d ea ec es i N) (hn : 0 < d.ss.length) : ∃ hb hc, v .st = .slice (some ⟨hb, 0, none⟩) d.ss.length hc ∧ (v .st).ownBlock = some hb := by
  obtain ⟨g, c, h1, h2, _, _⟩ := fam_block (h.sp.fam.own .st) (by exact hn)
  exact ⟨g, c, h1, h2⟩
theorem SpO.stC (h : SpO c w0 W pb v d ea ec es i N) {hb k : Nat} (e : (v .st).ownBlock = some hb) (hk : k < d.ss.length) : W.cell? ⟨hb, k, none⟩ = some (.pointer (some ⟨d.sbs.getD k 0, 0, none⟩)) := by
  refine h.sp.fam.cell e ?_
  show (d.sbs.map fun b => Value.pointer (some ⟨b, 0, none⟩))[k]? = _
  have hk' : k < d.sbs.length := by rw [h.sp.len]; exact hk
  rw [List.getElem?_map, List.getElem?_eq_getElem hk', List.getD_eq_getElem?_getD, List.getElem?_eq_getElem hk']
  rfl
end
/-- A state's words and prints as an outcome's. -/
theorem dst_eno {ι : Type} {W : World} {vf : ι → Value} {B : Nat} {P : Pg} {xb : Nat} {vx : Rl → Value} {s : Sx} (hD : DSt W B P xb vx s) (ho : ∀ r g, (vx r).ownBlock = some g → ∀ q, (vf q).ownBlock ≠ some g) (st : Int) (hw : s.words.length ≤ 100000) (hp : s.prints.length ≤ 100000) :
    ∃ wa wc pa pc, vx .words = .slice wa s.words.length wc ∧ vx .prints = .slice pa s.prints.length pc ∧ EnO W vf ⟨⟨st, s.words, s.prints⟩, wa, wc, pa, pc⟩ ∧ EnO W vf ⟨⟨st, [], s.prints⟩, none, 0, pa, pc⟩ := by
  obtain ⟨wa, wc, h1⟩ := hD.wordsV
  obtain ⟨pa, pc, h2⟩ := hD.printsV
  have lw : LIo W vf wa s.words := fun i hi => by
    obtain ⟨g, c, e1, e2, _⟩ := hD.wordsB (by omega)
    rw [h1] at e1
    simp only [Value.slice.injEq] at e1
    exact ⟨g, 0, e1.1, by simpa using hD.word e2 hi, ho _ g e2⟩
  have lp : LIo W vf pa s.prints := fun i hi => by
    obtain ⟨g, c, e1, e2, _, _⟩ := fam_block (hD.fam.own .prints) (by show 0 < s.prints.length; omega)
    rw [h2] at e1
    simp only [Value.slice.injEq] at e1
    exact ⟨g, 0, e1.1, by simpa using hD.fam.cell e2 (intsV_at hi), ho _ g e2⟩
  have hcap : s.words.length ≤ wc := by
    have h := (hD.fam.own .words).2
    rw [h1] at h
    rcases h with ⟨h, _⟩ | ⟨g, cap, cur, h, _, _, h3, _⟩
    · simp only [Value.slice.injEq] at h
      omega
    · simp only [Value.slice.injEq] at h
      omega
  exact ⟨wa, wc, pa, pc, h1, h2, ⟨lw, lp, hw, hp, hcap⟩, ⟨fun i hi => absurd hi (Nat.not_lt_zero _), lp, Nat.zero_le _, hp, Nat.zero_le _⟩⟩
end

section
open Go.RowKit

section
variable {w W W' : World} {fb ga ac l cc rg : Nat} {ca : Option Addr} {MB : Nat → Nat} {ov ov' : Value} {E : Nat → Nat → Vl} {O : List (Nat × Nat)}
theorem FlV.look (h : FlV w W fb ga ac l cc rg ca MB ov E O) {i r : Nat} (hi : i ≤ l) (hr : r < rg) (hrg : rg ≤ 1000) : (Instr.lookup 110 (.map (some (MB i))) (.int .i64 (r : Int)) false).run Tryd.prog W = .ok (.agg #[.int .i64 ((E i r).st : Int), .int .i64 (E i r).nb]) W := by
  obtain ⟨n, h1, _⟩ := h.mp i hi
  exact h1.look hr hrg
end
set_option maxRecDepth 100000 in
set_option maxHeartbeats 1600000 in
/-- All registers of a go to j: what is told of what is still to be done is carried over (Z). -/
theorem fall_any (w W : World) (fb ga ac l cc rg : Nat) (ca : Option Addr) (MB : Nat → Nat) (ov : Value) (E : Nat → Nat → Vl) (O : List (Nat × Nat)) (h : FlV w W fb ga ac l cc rg ca MB ov E O) (a j : Nat) (ha : a ≤ l) (hj : j ≤ l) (hrg : rg ≤ 200)
    (Z : Nat → (Nat → Nat → Vl) → List (Nat × Nat) → Prop) (hz0 : Z 0 E O) (hz : ∀ r E O, r < rg → Z r E O → Z (r + 1) (updE E j r ((E j r).meet (E a r))) (newO E j r (E a r) O)) :
    Calls Tryd.prog 103 #[.pointer (some ⟨fb, 0, none⟩), .map (some (MB a)), .int .i64 (j : Int)] W fun e w' => ∃ ov' E' O', e = .returned (.tuple #[]) ∧ FlV w w' fb ga ac l cc rg ca MB ov' E' O' ∧ KpF W w' fb ov ov' ∧ Z rg E' O' := by
  have HI := Hid.out (p := Hid _) (And.intro h (And.intro hz0 hz))
  have c1 : W.cell? ⟨fb, 1, none⟩ = some (.int .i64 (rg : Int)) := box_cell h.box rfl
  clear h hz0 hz
  go_enter Tryd.func103, Tryd.ntmps103
  go_wp2_with fail
  go_loopw [11] (fun x wr => ∃ (r : Nat) (ov1 : Value) (E1 : Nat → Nat → Vl) (O1 : List (Nat × Nat)), r ≤ rg ∧ x = .int .i64 r ∧ Hid (FlV w wr fb ga ac l cc rg ca MB ov1 E1 O1 ∧ KpF W wr fb ov ov1 ∧ Z r E1 O1)) (fun x _ => rg - (intOf x).toNat)
  case atStart => exact ⟨0, ov, E, O, Nat.zero_le _, rfl, HI.out.1, KpF.refl _ _ _, HI.out.2.1⟩
  case round =>
    obtain ⟨r, ov1, E1, O1, hr, rfl, HL⟩ := hrel
    by_cases hlt : r < rg
    · have hlt' : (r : Int) < (rg : Int) := by omega
      have lk := HL.out.1.look ha hlt (by omega)
      have HM := Hid.out (p := Hid _) (fmeet_any w wr fb ga ac l cc rg ca MB ov1 E1 O1 HL.out.1 j r hj hlt hrg (E1 a r))
      obtain ⟨x, hx⟩ : ∃ x, E1 a r = x := ⟨_, rfl⟩
      have HX := Hid.out (p := Hid _) hx
      rw [hx] at lk HM
      obtain ⟨mb, hmb⟩ : ∃ m, MB a = m := ⟨_, rfl⟩
      rw [hmb] at lk ⊢
      clear c1 hx
      go_wp2_with fail
      refine Calls.mono HM.out ?_
      rintro e w5 ⟨ov2, rfl, h5, k5⟩
      have HN : Hid (FlV w w5 fb ga ac l cc rg ca MB ov2 (updE E1 j r ((E1 j r).meet x)) (newO E1 j r x O1) ∧ KpF W w5 fb ov ov2 ∧ Z (r + 1) (updE E1 j r ((E1 j r).meet x)) (newO E1 j r x O1)) := by
        refine ⟨h5, HL.out.2.1.trans k5, ?_⟩
        rw [← HX.out]
        exact HI.out.2.2 r E1 O1 hlt HL.out.2.2
      clear h5 k5 HM lk
      go_wp2_with fail
      go_roundw
      case rel => exact ⟨r + 1, ov2, _, _, by omega, by go_num, HN.out⟩
      case measure => simp [intOf]; omega
    · obtain rfl : r = rg := by omega
      go_wp2_with fail
      go_end0
      exact ⟨ov1, E1, O1, rfl, HL.out⟩
end

section
open Go.RowKit

set_option maxRecDepth 100000 in
set_option maxHeartbeats 1600000 in
theorem fbecome_any (w W : World) (fb ga ac l cc rg m lk : Nat) (ca : Option Addr) (MB : Nat → Nat) (ov : Value) (E : Nat → Nat → Vl) (O : List (Nat × Nat)) (X : Nat → Nat → Int) (i : Nat) (h : FlV w W fb ga ac l cc rg ca MB ov E O) (_ : l ≤ 1000) (hrg0 : 0 < rg) (hrg : rg ≤ 200) (hord : OrdAt w ca i (X i 0) (X i 1) (X i 2) (X i 3)) (hE : ordE rg m lk l (X i 0) (X i 1) (X i 2) (X i 3) = 0) (hi : i < l) (hth : E i 0 = .no → ∀ r, r < rg → E i r = .no) :
    Calls Tryd.prog 30 #[.pointer (some ⟨fb, 0, none⟩), .int .i64 (i : Int)] W fun e w' => ∃ sa cp, e = .returned (.slice sa (bConX X i (E i)).length cp) ∧ SrcL w' sa (cellsT (bConX X i (E i))) ∧ Below W.heap.size W w' := by
  obtain ⟨n0, hmp0, -⟩ := h.mp i (by omega)
  obtain ⟨x0, hx0⟩ : ∃ v, X i 0 = v := ⟨_, rfl⟩
  obtain ⟨x1, hx1⟩ : ∃ v, X i 1 = v := ⟨_, rfl⟩
  obtain ⟨x2, hx2⟩ : ∃ v, X i 2 = v := ⟨_, rfl⟩
  obtain ⟨x3, hx3⟩ : ∃ v, X i 3 = v := ⟨_, rfl⟩
  have hbl : bConX X i (E i) = if E i 0 = .no then [] else if x0 = 15 then dcL x0 x1 x2 x3 (E i x1.toNat) else if 2 ≤ x0 ∧ x0 ≤ 7 then (match mkV x0 x2 x3 (E i) with | .num n => [(1, x1, n, 0)] | _ => [(x0, x1, x2, x3)]) else [(x0, x1, x2, x3)] := by
    unfold bConX dcL
    rw [hx0, hx1, hx2, hx3]
    by_cases h0 : E i 0 = .no
    · rw [if_pos h0, if_pos h0]
    · rw [if_neg h0, if_neg h0]
      by_cases h15 : x0 = 15
      · rw [if_pos h15, if_pos h15]
        cases E i x1.toNat <;> rfl
      · rw [if_neg h15, if_neg h15]
        by_cases h27 : 2 ≤ x0 ∧ x0 ≤ 7
        · rw [if_pos (by omega), if_pos h27]
          cases mkV x0 x2 x3 (E i) <;> rfl
        · rw [if_neg (by omega), if_neg h27]
  rw [hx0, hx1, hx2, hx3] at hord hE
  obtain ⟨cb, co, rfl, o0, o1, o2, o3⟩ := hord.below h.low
  have a0 := h.at (i := i) (by omega)
  have c0 : W.cell? ⟨fb, 0, none⟩ = some (.slice (some ⟨cb, co, none⟩) l cc) := box_cell h.box rfl
  have c2 : W.cell? ⟨fb, 2, none⟩ = some (.slice (some ⟨ga, 0, none⟩) (l + 1) ac) := box_cell h.box rfl
  obtain ⟨mb, hmb⟩ : ∃ q, MB i = q := ⟨_, rfl⟩
  rw [hmb] at a0 hmp0
  have hiI : (i : Int) < (l : Int) := by omega
  have hiJ : (i : Int) < (l : Int) + 1 := by omega
  have hil1 : i < l + 1 := by omega
  have c0' := fun o => cell_up c0 o
  have c2' := fun o => cell_up c2 o
  have a0' := fun o => cell_up a0 o
  have o0' := fun o => cell_up o0 o
  have o1' := fun o => cell_up o1 o
  have o2' := fun o => cell_up o2 o
  have o3' := fun o => cell_up o3 o
  obtain ⟨W1, hW1⟩ : ∃ V, (W.alloc (.cells #[.int .i64 x0, .int .i64 x1, .int .i64 x2, .int .i64 x3] 44)).drew = V := ⟨_, rfl⟩
  have hb1 : Below W.heap.size W W1 := by rw [← hW1]; exact (low1 _ _).drew
  have ho1 : W1.heap[W.heap.size]? = some (.cells #[.int .i64 x0, .int .i64 x1, .int .i64 x2, .int .i64 x3] 44) := by rw [← hW1]; exact heap_alloc_new _ _
  have hm1 := hmp0.keep (hb1.block _ hmp0.lt)
  obtain ⟨z, hz, hz0⟩ := hm1.len 3
  have HW1 := Hid.out (p := Hid _) (And.intro hW1 (And.intro hb1 ho1))
  have t0 : W1.cell? ⟨W.heap.size, 0, none⟩ = some (.int .i64 x0) := box_cell ho1 rfl
  have t1 : W1.cell? ⟨W.heap.size, 1, none⟩ = some (.int .i64 x1) := box_cell ho1 rfl
  have t2 : W1.cell? ⟨W.heap.size, 2, none⟩ = some (.int .i64 x2) := box_cell ho1 rfl
  have t3 : W1.cell? ⟨W.heap.size, 3, none⟩ = some (.int .i64 x3) := box_cell ho1 rfl
  rw [hbl]
  have HM1 := Hid.out (p := Hid _) (And.intro hm1 (And.intro hE hth))
  clear h hord hE hmp0 hx0 hx1 hx2 hx3 hbl hmb hW1 hb1 ho1 hm1
  by_cases h0 : E i 0 = .no
  · obtain rfl : z = 0 := hz0.2 (HM1.out.2.2 h0)
    rw [if_pos h0]
    clear h0 hth hz0
    go_enter Tryd.func30, Tryd.ntmps30
    go_wp2_with fail
    go_region
    rw [HW1.out.1]
    clear c0 c2 a0 o0 o1 o2 o3 c0' c2' a0' o0' o1' o2' o3'
    go_wp2
    go_ret
    exact ⟨none, 0, rfl, srcL_nil _ _, HW1.out.2.1⟩
  · have hzn : ((z : Int) == 0) = false := by
      have : z ≠ 0 := fun e => h0 (hz0.1 e 0 hrg0)
      have : (z : Int) ≠ 0 := by omega
      simpa using this
    rw [if_neg h0]
    clear h0 hth hz0
    by_cases h15 : x0 = 15
    · subst h15
      rw [if_pos rfl]
      have hx1 := (ok_zero HM1.out.2.1).1
      obtain ⟨ka, rfl⟩ : ∃ k : Nat, x1 = k := ⟨x1.toNat, by omega⟩
      have lk1 : (Instr.lookup 110 (.map (some mb)) (.int .i64 (ka : Int)) false).run Tryd.prog W1 = .ok (.agg #[.int .i64 ((E i ka).st : Int), .int .i64 (E i ka).nb]) W1 := HM1.out.1.look (by omega) (by omega)
      rw [Int.toNat_natCast]
      obtain ⟨v, hv⟩ : ∃ v, E i ka = v := ⟨_, rfl⟩
      rw [hv] at lk1 ⊢
      have HDC := Hid.out (p := Hid _) (decided_any W1 15 (ka : Int) x2 x3 v)
      clear hx1 hv
      go_enter Tryd.func30, Tryd.ntmps30
      go_wp2_with fail
      go_region
      rw [HW1.out.1]
      clear c0 c2 a0 o0 o1 o2 o3 c0' c2' a0' o0' o1' o2' o3'
      go_wp2_with fail
      refine Calls.mono HDC.out ?_
      rintro e w5 ⟨sa, cp, rfl, h5, hb5⟩
      have H5 := Hid.out (p := Hid _) (And.intro h5 (HW1.out.2.1.trans (hb5.mono HW1.out.2.1.size)))
      clear h5 hb5
      go_wp2_with fail
      refine bodyPost_ret (v := .slice sa (dcL 15 (ka : Int) x2 x3 v).length cp) (by simp [results, Tryd.results30, go_sem]) rfl ⟨sa, cp, rfl, H5.out⟩
    · have h15' : (x0 == 15) = false := by simpa using h15
      rw [if_neg h15]
      have HRE : Hid (∀ V, Calls Tryd.prog 63 #[.int .i64 x0] V fun e w' => e = .returned (.bool (decide (2 ≤ x0) && decide (x0 ≤ 7))) ∧ w' = V) := fun V => reckons_any V x0
      by_cases h27 : 2 ≤ x0 ∧ x0 ≤ 7
      · rw [if_pos h27]
        have hdec : (decide (2 ≤ x0) && decide (x0 ≤ 7)) = true := by simp [h27]
        rw [hdec] at HRE
        obtain ⟨b', c', rfl, rfl, hb', hc'⟩ := rk_regs hrg0 HM1.out.2.1 h27
        rw [← rkV_mk h27]
        obtain ⟨mk, hmk⟩ : ∃ x, rkV x0 (b' : Int) (c' : Int) (E i) = x := ⟨_, rfl⟩
        have HRK : Hid (Calls Tryd.prog 64 #[.agg #[.int .i64 x0, .int .i64 x1, .int .i64 (b' : Int), .int .i64 (c' : Int)], .map (some mb)] W1 fun e w' => e = .returned (.agg #[.int .i64 (mk.st : Int), .int .i64 mk.nb]) ∧ Below W1.heap.size W1 w') := by
          have h := reckoned_any W1 mb rg n0 (E i) x0 x1 b' c' hb' hc' (by omega) h27 HM1.out.1
          rw [hmk] at h
          exact h
        rw [hmk]
        obtain ⟨s, hs⟩ : ∃ x : Int, (mk.st : Int) = x := ⟨_, rfl⟩
        obtain ⟨k, hk⟩ : ∃ x : Int, mk.nb = x := ⟨_, rfl⟩
        rw [hs, hk] at HRK
        obtain ⟨res, hres⟩ : ∃ r, (match mk with | .num n => [(1, x1, n, 0)] | _ => [(x0, x1, (b' : Int), (c' : Int))]) = r := ⟨_, rfl⟩
        rw [hres]
        have HRS : Hid ((s = 1 ∧ res = [(1, x1, k, 0)]) ∨ ((s == 1) = false ∧ res = [(x0, x1, (b' : Int), (c' : Int))])) := by
          cases mk with
          | num n => exact Or.inl ⟨hs.symm, by rw [← hres, ← hk]; rfl⟩
          | no => exact Or.inr ⟨by rw [← hs]; rfl, hres.symm⟩
          | any => exact Or.inr ⟨by rw [← hs]; rfl, hres.symm⟩
        clear hmk hs hk hres h27 hdec
        go_enter Tryd.func30, Tryd.ntmps30
        go_wp2_with fail
        go_region
        rw [HW1.out.1]
        clear c0 c2 a0 o0 o1 o2 o3 c0' c2' a0' o0' o1' o2' o3'
        go_wp2_with fail
        refine Calls.mono (HRE.out _) ?_
        rintro e w' ⟨rfl, rfl⟩
        go_wp2_with fail
        refine Calls.mono HRK.out ?_
        rintro e w5 ⟨rfl, hb5⟩
        have hob := (hb5.block _ (box_lt HW1.out.2.2)).trans HW1.out.2.2
        have q0 : ∀ o, (w5.alloc o).cell? ⟨W.heap.size, 0, none⟩ = some (.int .i64 x0) := fun o => cell_up (box_cell hob rfl) o
        have q1 : ∀ o, (w5.alloc o).cell? ⟨W.heap.size, 1, none⟩ = some (.int .i64 x1) := fun o => cell_up (box_cell hob rfl) o
        have q2 : ∀ o, (w5.alloc o).cell? ⟨W.heap.size, 2, none⟩ = some (.int .i64 (b' : Int)) := fun o => cell_up (box_cell hob rfl) o
        have q3 : ∀ o, (w5.alloc o).cell? ⟨W.heap.size, 3, none⟩ = some (.int .i64 (c' : Int)) := fun o => cell_up (box_cell hob rfl) o
        have HB5 := Hid.out (p := Hid _) (HW1.out.2.1.trans (hb5.mono HW1.out.2.1.size))
        clear hob hb5 t0 t1 t2 t3
        rcases HRS.out with ⟨rfl, rfl⟩ | ⟨hs1, rfl⟩
        · go_wp2_with fail
          go_ret
          have h9 := srcL_one (w := w5.alloc (.cells #[.int .i64 1, .int .i64 k] 116)) (x := (1, x1, k, 0))
          rw [World.size_alloc] at h9
          exact ⟨_, _, rfl, h9, (HB5.out.alloc HB5.out.size _).alloc (by have := HB5.out.size; simp; omega) _⟩
        · go_wp2_with fail
          go_ret
          have h9 := srcL_one (w := w5.alloc (.cells #[.int .i64 s, .int .i64 k] 116)) (x := (x0, x1, (b' : Int), (c' : Int)))
          rw [World.size_alloc] at h9
          exact ⟨_, _, rfl, h9, (HB5.out.alloc HB5.out.size _).alloc (by have := HB5.out.size; simp; omega) _⟩
      · rw [if_neg h27]
        have hdec : (decide (2 ≤ x0) && decide (x0 ≤ 7)) = false := by
          rw [Bool.and_eq_false_iff]
          by_cases h : 2 ≤ x0
          · right; simp; omega
          · left; simp; omega
        rw [hdec] at HRE
        clear h27 hdec
        go_enter Tryd.func30, Tryd.ntmps30
        go_wp2_with fail
        go_region
        rw [HW1.out.1]
        clear c0 c2 a0 o0 o1 o2 o3 c0' c2' a0' o0' o1' o2' o3'
        go_wp2_with fail
        refine Calls.mono (HRE.out _) ?_
        rintro e w' ⟨rfl, rfl⟩
        go_wp2_with fail
        go_ret
        exact ⟨_, _, rfl, srcL_one (x := (x0, x1, x2, x3)), HW1.out.2.1.alloc HW1.out.2.1.size _⟩
end

end Go.Proofs.YtkailbdjilkneaaDoor
