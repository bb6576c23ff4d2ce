/-
  All that can be come to, by the document.
-/
import Derived.Test.YtocfocjnnjdcgaaDoorZBy1
import Derived.Test.YtocfocjnnjdcgaaDoorRDo4
namespace Go.Proofs.YtocfocjnnjdcgaaDoor
open Go.RowKit

/-- What By leaves. -/
def ByQ (c : Bc) (w0 : World) (e : Ending) (w' : World) : Prop := ∃ pb v d ea ec es i N, e = .returned (.pointer (some ⟨pb, 0, none⟩)) ∧ SpO c w0 w' pb v d ea ec es i N ∧ N ≤ 70000 ∧ (d.full = false → i = d.ss.length)
/-- What is known in a round of By's walk. -/
structure ByI (c : Bc) (w0 W : World) (pb : Nat) (i : Nat) (v : Sr → Value) (d : Sd) (ea : Option Addr) (ec : Nat) (es : List En) : Prop where
  ex : ∃ j, SpO c w0 W pb v d ea ec es j (16 * i) ∧ (d.full = false → j = i)
  le : i ≤ d.ss.length
/-- What is known of a state that is gone through. -/
structure ByS (c : Bc) (w0 W : World) (pb : Nat) (i N : Nat) (s : Sx) (xb : Nat) (v : Sr → Value) (d : Sd) (ea : Option Addr) (ec : Nat) (es : List En) : Prop where
  sp : SpO c w0 W pb v d ea ec es i N
  lt : i < d.ss.length
  st : d.ss.getD i default = s
  at_ : d.sbs.getD i 0 = xb
/-- What is known while a state's moves are gone through. -/
structure ByK (c : Bc) (w0 W : World) (pb : Nat) (i k : Nat) (s : Sx) (xb lb : Nat) (v : Sr → Value) (d : Sd) (ea : Option Addr) (ec : Nat) (es : List En) : Prop where
  bs : ByS c w0 W pb i (16 * i + k) s xb v d ea ec es
  mvd : Mvd c.L c.X c.P.mode s d.ss (fun o => o ∈ es.map En.o) k
  mv : ∀ j, j < (movesX c.L c.X c.P.mode s).length → W.cell? ⟨lb, j, none⟩ = some (.int .i64 ((movesX c.L c.X c.P.mode s).getD j 0))
  out : ∀ q, (v q).ownBlock ≠ some lb
/-- How many moves there are. -/
theorem moves_few {n : Nat} {L : Nat → Nat} {X : Nat → Nat → Nat → Int} {m lk rg : Nat} {mode : Int} {s : Sx} (h : SOk n L m lk rg mode s) (hn : n ≤ 4) : (movesX L X mode s).length ≤ 16 := by
  have h1 := mvsT_len L X mode s (fun t ht => h.wlen t (by rw [← h.ths]; exact ht)) s.ths.length (Nat.le_refl _)
  rw [mvsT_all] at h1
  have h2 := h.ths
  omega
section
variable {c : Bc} {w0 W W1 w' : World} {pb i k N : Nat} {s : Sx} {xb lb : Nat} {v : Sr → Value} {d : Sd} {ea : Option Addr} {ec : Nat} {es : List En}
theorem ByS.below (h : ByS c w0 W pb i N s xb v d ea ec es) (hb : Below W.heap.size W w') : ByS c w0 w' pb i N s xb v d ea ec es := ⟨h.sp.below hb, h.lt, h.st, h.at_⟩
theorem ByS.ok (h : ByS c w0 W pb i N s xb v d ea ec es) : StOk c i s := by rw [← h.st]; exact h.sp.ok i h.lt
theorem ByS.mem (h : ByS c w0 W pb i N s xb v d ea ec es) : s ∈ d.ss := by rw [← h.st]; exact h.sp.mem h.lt
theorem ByS.few (h : ByS c w0 W pb i N s xb v d ea ec es) : i ≤ 4000 := by have := h.sp.few; have := h.lt; omega
theorem ByS.dst (h : ByS c w0 W pb i N s xb v d ea ec es) : ∃ B' v', DSt W B' c.P xb v' s ∧ ∀ r g, (v' r).ownBlock = some g → ∀ q, (v q).ownBlock ≠ some g := by
  obtain ⟨B', v', h1, h2⟩ := h.sp.sp.states i h.lt
  rw [h.st, h.at_] at h1
  exact ⟨B', v', h1, h2⟩
theorem ByS.ended (h : ByS c w0 W pb i N s xb v d ea ec es) (hok : BcOk c w0) : Calls Tryd.prog 76 #[.pointer (some ⟨xb, 0, none⟩)] W fun e w' => e = .returned (.bool (endedX c.L s)) ∧ Below W.heap.size W w' := by
  obtain ⟨B', v', h1, _⟩ := h.dst
  exact ended_any W B' xb c.P v' s c.A c.L c.C c.X c.m c.lk c.rg hok.n0 h1 h.ok.ok hok.cok (hok.prog.below h.sp.low)
theorem ByS.moves (h : ByS c w0 W pb i N s xb v d ea ec es) (hok : BcOk c w0) : Calls Tryd.prog 77 #[.pointer (some ⟨xb, 0, none⟩)] W fun e w' => ∃ a len cp, e = .returned (.slice a len cp) ∧ IsI w' W.heap.size a len cp (movesX c.L c.X c.P.mode s) ∧ Below W.heap.size W w' := by
  obtain ⟨B', v', h1, _⟩ := h.dst
  exact moves_any W B' xb c.P v' s c.A c.L c.C c.X c.m c.lk c.rg hok.n0 h1 h.ok.ok hok.cok (hok.prog.below h.sp.low)
set_option maxRecDepth 100000 in
/-- Nothing can be picked: an outcome. -/
theorem ByS.rest (h : ByS c w0 W pb i (16 * i) s xb v d ea ec es) (hok : BcOk c w0) (hm : movesX c.L c.X c.P.mode s = []) : ∃ wa wl wc pa pl pc, W.cell? ⟨xb, 6, none⟩ = some (.slice wa wl wc) ∧ W.cell? ⟨xb, 8, none⟩ = some (.slice pa pl pc) ∧ Hid (∀ W1, Below W.heap.size W W1 → Calls Tryd.prog 78 #[.pointer (some ⟨pb, 0, none⟩), ocV (if endedX c.L s then 0 else 2) wa wl wc pa pl pc] W1 fun en w' => en = .returned (.tuple #[]) ∧ ∃ d' ea' ec' es', ByI c w0 w' pb (i + 1) v d' ea' ec' es') := by
  obtain ⟨B', v', h1, h2⟩ := h.dst
  have hl1 : s.words.length ≤ 100000 := by have := h.ok.ok.words; have := hok.cok.m64; omega
  have hl2 : s.prints.length ≤ 100000 := by have := h.ok.pr; have := h.few; omega
  obtain ⟨wa, wc, pa, pc, e1, e2, _, _⟩ := dst_eno h1 h2 0 hl1 hl2
  have c6 := h1.c6
  have c8 := h1.c8
  rw [e1] at c6
  rw [e2] at c8
  refine ⟨wa, _, wc, pa, _, pc, c6, c8, fun W1 hb => ?_⟩
  have hS1 := h.sp.below hb
  have ho : (⟨if endedX c.L s then 0 else 2, s.words, s.prints⟩ : Oc) ∈ c.outs s := by
    show _ ∈ outsX _ _ _ _
    rw [outs_none hm]; simp
  obtain ⟨wa', wc', pa', pc', e1', e2', he, _⟩ := dst_eno (h1.below hb) h2 (if endedX c.L s then 0 else 2) hl1 hl2
  rw [e1] at e1'
  rw [e2] at e2'
  simp only [Value.slice.injEq, true_and] at e1' e2'
  obtain ⟨rfl, rfl⟩ := e1'
  obtain ⟨rfl, rfl⟩ := e2'
  have hp := hS1.Put_any he h.mem ho h.few (by omega)
  have e0 : enV ⟨⟨if endedX c.L s then 0 else 2, s.words, s.prints⟩, wa, wc, pa, pc⟩ = ocV (if endedX c.L s then 0 else 2) wa s.words.length wc pa s.prints.length pc := rfl
  rw [e0] at hp
  refine Calls.mono hp ?_
  rintro en w' ⟨rfl, _, d', ea', ec', es', hS', hss, hsb, hes⟩
  refine ⟨rfl, d', ea', ec', es', ⟨i + 1, (hS'.goneOn (by rw [hss]; exact h.lt) (fun t ht => ?_) (fun o ho' => ?_)).more (by omega), fun _ => rfl⟩, by rw [hss]; exact h.lt⟩
  · rw [hss, h.st] at ht
    change t ∈ nxX c.L c.X c.P.mode s at ht
    rw [nx_none hm] at ht; cases ht
  · rw [hss, h.st] at ho'
    change o ∈ outsX c.L c.X c.P.mode s at ho'
    rw [outs_none hm] at ho'
    exact (hes o).2 (Or.inl (List.mem_singleton.mp ho'))
theorem ByK.below (h : ByK c w0 W pb i k s xb lb v d ea ec es) (hb : Below W.heap.size W w') : ByK c w0 w' pb i k s xb lb v d ea ec es :=
  ⟨h.bs.below hb, h.mvd, fun j hj => (hb.cell (lt_of_cell (h.mv j hj))).trans (h.mv j hj), h.out⟩
/-- All moves were gone through, or there are too many states. -/
theorem ByK.done (h : ByK c w0 W pb i k s xb lb v d ea ec es) (hk : k ≤ 16) (hm : movesX c.L c.X c.P.mode s ≠ []) (hd : d.full = false → k = (movesX c.L c.X c.P.mode s).length) : ByI c w0 W pb (i + 1) v d ea ec es := by
  refine ⟨?_, h.bs.lt⟩
  cases hf : d.full with
  | true => exact ⟨i, h.bs.sp.more (by omega), fun e => by cases e⟩
  | false =>
    have hv := h.mvd
    rw [hd hf] at hv
    refine ⟨i + 1, (h.bs.sp.goneOn h.bs.lt (fun t ht => ?_) (fun o ho => ?_)).more (by omega), fun _ => rfl⟩
    · rw [h.bs.st] at ht; exact hv.nx ht
    · rw [h.bs.st] at ho; exact hv.outs hm ho
theorem ByK.copy (h : ByK c w0 W pb i k s xb lb v d ea ec es) (hok : BcOk c w0) : Calls Tryd.prog 79 #[.pointer (some ⟨xb, 0, none⟩)] W fun e w' => ∃ yb vy, e = .returned (.pointer (some ⟨yb, 0, none⟩)) ∧ DSt w' W.heap.size c.P yb vy s ∧ Below W.heap.size W w' := by
  obtain ⟨B', v', h1, _⟩ := h.bs.dst
  exact copy_any W B' xb c.P v' s c.L c.m c.lk c.rg hok.n0 h1 h.bs.ok.ok h.bs.ok.fell hok.cok.n4 hok.cok.m64 hok.cok.lk4 hok.cok.rg2 (by have := h.bs.ok.pr; have := h.bs.few; omega)
/-- A move of a copy. -/
theorem ByK.move (h : ByK c w0 W pb i k s xb lb v d ea ec es) (hok : BcOk c w0) (hb : Below W.heap.size W W1) {yb : Nat} {vy : Rl → Value} (hD : DSt W1 W.heap.size c.P yb vy s) (hk : k < (movesX c.L c.X c.P.mode s).length) : Calls Tryd.prog 80 #[.pointer (some ⟨yb, 0, none⟩), .int .i64 ((movesX c.L c.X c.P.mode s).getD k 0)] W1 fun e w' => e = .returned (.tuple #[]) ∧ ByK c w0 w' pb i k s xb lb v d ea ec es ∧ ∃ vy', DSt w' W.heap.size c.P yb vy' (doX c.X c.P.mode s ((movesX c.L c.X c.P.mode s).getD k 0).toNat) ∧ ∀ r g, (vy' r).ownBlock = some g → ∀ q, (v q).ownBlock ≠ some g := by
  obtain ⟨h1, _, _⟩ := doOk_any hok.mode hok.cok W1 W.heap.size yb vy s ((movesX c.L c.X c.P.mode s).getD k 0) hD hb.size h.bs.ok.ok (hok.prog.below (h.bs.sp.low.trans (hb.mono h.bs.sp.low.size))) (by have := h.bs.ok.pr; have := h.bs.few; omega) (getD_mv hk)
  refine h1.mono fun e w' ⟨he, vy', hD', hM⟩ => ⟨he, h.below (hb.trans (hM.below hb.size hD.fam.low)), vy', hD', fun r g hg q e => ?_⟩
  have h2 := hD'.fam.low r g hg
  have h3 := h.bs.sp.sp.fam.lt e
  omega
theorem ByK.stok (h : ByK c w0 W pb i k s xb lb v d ea ec es) (hok : BcOk c w0) (hk : k < (movesX c.L c.X c.P.mode s).length) : SOk c.P.n c.L c.m c.lk c.rg c.P.mode (doX c.X c.P.mode s ((movesX c.L c.X c.P.mode s).getD k 0).toNat) ∧ (doX c.X c.P.mode s ((movesX c.L c.X c.P.mode s).getD k 0).toNat).prints.length ≤ 2 * i + 2 := by
  refine ⟨move_ok h.bs.ok.ok hok.cok hok.mode (getD_mv hk), ?_⟩
  have hp := h.bs.ok.pr
  rcases movesX_mem (getD_mv hk) with ⟨t, ht, e, _⟩ | ⟨t, q, ht, hq, e, _⟩
  · rw [e, show (8 * (t : Int)).toNat = 8 * t by omega]
    have := prints_step (X := c.X) (mode := c.P.mode) (s := s) (t := t)
    omega
  · rw [e, show (8 * (t : Int) + (q : Int) + 1).toNat = 8 * t + q + 1 by omega, prints_wait (by have := h.bs.ok.ok.wlen t (by rw [← h.bs.ok.ok.ths]; exact ht); omega)]
    omega
set_option maxRecDepth 100000 in
/-- One that fell: an outcome. -/
theorem ByK.fall (h : ByK c w0 W pb i k s xb lb v d ea ec es) (hok : BcOk c w0) (hk : k < (movesX c.L c.X c.P.mode s).length) {By yb : Nat} {vy : Rl → Value} {s' : Sx} (hs' : doX c.X c.P.mode s ((movesX c.L c.X c.P.mode s).getD k 0).toNat = s') (hD : DSt W By c.P yb vy s') (ho : ∀ r g, (vy r).ownBlock = some g → ∀ q, (v q).ownBlock ≠ some g) (hf : s'.fell = true) :
    ∃ pa pl pc, W.cell? ⟨yb, 8, none⟩ = some (.slice pa pl pc) ∧ Hid (Calls Tryd.prog 78 #[.pointer (some ⟨pb, 0, none⟩), ocV 1 none 0 0 pa pl pc] W fun en w' => en = .returned (.tuple #[]) ∧ ∃ d' ea' ec' es', d'.full = d.full ∧ ByK c w0 w' pb i (k + 1) s xb lb v d' ea' ec' es') := by
  have hst := h.stok hok hk
  rw [hs'] at hst
  obtain ⟨wa, wc, pa, pc, _, e2, _, he⟩ := dst_eno hD ho 1 (by have := hst.1.words; have := hok.cok.m64; omega) (by have := h.bs.few; omega)
  have c8 := hD.c8
  rw [e2] at c8
  refine ⟨pa, _, pc, c8, ?_⟩
  have hout : (⟨1, [], s'.prints⟩ : Oc) ∈ c.outs s := by
    rw [← hs'] at hf ⊢
    exact fell_out (getD_mv hk) hf
  have hm16 := moves_few (X := c.X) h.bs.ok.ok hok.cok.n4
  have hp := h.bs.sp.Put_any he h.bs.mem hout h.bs.few (by omega)
  have e0 : enV ⟨⟨1, [], s'.prints⟩, none, 0, pa, pc⟩ = ocV 1 none 0 0 pa s'.prints.length pc := rfl
  rw [e0] at hp
  refine Calls.mono hp ?_
  rintro en w' ⟨rfl, hM, d', ea', ec', es', hS', hss, hsb, hes⟩
  refine ⟨rfl, d', ea', ec', es', by rw [hS'.full, h.bs.sp.full, hss], ⟨hS', by rw [hss]; exact h.bs.lt, by rw [hss]; exact h.bs.st, by rw [hsb]; exact h.bs.at_⟩, h.mvd.next (fun t ht => by rw [hss]; exact ht) (fun o ho => (hes o).2 (Or.inr ho)) (fun _ => (hes _).2 (Or.inl (by rw [hs']))) (fun hf' => by rw [hs', hf] at hf'; cases hf'), fun j hj => (hM.cell (a := ⟨lb, j, none⟩) (lt_of_cell (h.mv j hj)) h.out).trans (h.mv j hj), h.out⟩
/-- One that goes on: a state. -/
theorem ByK.come (h : ByK c w0 W pb i k s xb lb v d ea ec es) (hok : BcOk c w0) (hk : k < (movesX c.L c.X c.P.mode s).length) {By yb : Nat} {vy : Rl → Value} {s' : Sx} (hs' : doX c.X c.P.mode s ((movesX c.L c.X c.P.mode s).getD k 0).toNat = s') (hD : DSt W By c.P yb vy s') (ho : ∀ r g, (vy r).ownBlock = some g → ∀ q, (v q).ownBlock ≠ some g) (hf : s'.fell = false) (hnf : d.full = false) :
    Calls Tryd.prog 75 #[.pointer (some ⟨pb, 0, none⟩), .pointer (some ⟨yb, 0, none⟩)] W fun en w' => en = .returned (.tuple #[]) ∧ ∃ v' d', ByK c w0 w' pb i (k + 1) s xb lb v' d' ea ec es := by
  have hst := h.stok hok hk
  rw [hs'] at hst
  have hnx : s' ∈ c.nx s := mem_nx.mpr ⟨_, getD_mv hk, hs', hf⟩
  have hlt := h.bs.lt
  refine Calls.mono (h.bs.sp.put_any hok hD ho hnf ⟨hst.1, hf, by have := hst.2; omega⟩ h.bs.mem hnx) ?_
  rintro en w' ⟨rfl, v', d', hS', hM, hin, hall, hlen, hold⟩
  have hz : ∀ j, j < (movesX c.L c.X c.P.mode s).length → lb < W.heap.size := fun j hj => lt_of_cell (h.mv j hj)
  refine ⟨rfl, v', d', ⟨hS'.more (by omega), by omega, by rw [(hold i hlt).1]; exact h.bs.st, by rw [(hold i hlt).2]; exact h.bs.at_⟩, h.mvd.next hall (fun o ho => ho) (fun hf' => by rw [hs', hf] at hf'; cases hf') (fun _ => by rw [hs']; exact hin), fun j hj => (hM.cell (a := ⟨lb, j, none⟩) (hz j hj) h.out).trans (h.mv j hj), hM.out (hz k hk) h.out⟩
end

attribute [local go_sem ↓] appS_eq
set_option maxRecDepth 100000 in
set_option maxHeartbeats 3200000 in
theorem by_any (w : World) (ca : Option Addr) (n cc : Nat) (wa : Option Addr) (wc lk rg : Nat) (mode : Int) (words : List Int) (A : Nat → Option Addr) (L C : Nat → Nat) (X : Nat → Nat → Nat → Int) (c : Bc) (w0 : World) (hcc : c = ⟨⟨ca, n, cc, wa, words.length, wc, lk, rg, mode⟩, A, L, C, X, words.length, lk, rg, beginX n words lk rg⟩) (hw0 : w0 = w.alloc (boxQ ca n cc wa words.length wc lk rg)) (hw : SIs w wa words) (hok : BcOk c w) :
    Calls Tryd.prog 46 #[prgV ca n cc wa words.length wc lk rg, .int .i64 mode] w (ByQ c w0) := by
  have hz0 : w0.heap.size = w.heap.size + 1 := by rw [hw0]; simp
  have hb0 : Below w.heap.size w w0 := by rw [hw0]; exact (Below.refl _ _).alloc (Nat.le_refl _) _
  have hok0 : BcOk c w0 := ⟨hok.n0, hok.cok, hok.prog.below hb0, hok.mode⟩
  have HOK := Hid.out (p := Hid _) hok0
  have hPB : w0.heap[w.heap.size]? = some (boxQ ca n cc wa words.length wc lk rg) := by rw [hw0]; exact heap_alloc_new _ _
  have HP : Hid (∀ W, Below w0.heap.size w0 W → W.cell? ⟨w.heap.size, 0, none⟩ = some (.slice ca n cc) ∧ W.cell? ⟨w.heap.size, 1, none⟩ = some (.slice wa words.length wc) ∧ W.cell? ⟨w.heap.size, 2, none⟩ = some (.int .i64 (lk : Int)) ∧ W.cell? ⟨w.heap.size, 3, none⟩ = some (.int .i64 (rg : Int))) := fun W h => by
    have k := (h.block w.heap.size (by omega)).trans hPB
    exact ⟨box_cell k rfl, box_cell k rfl, box_cell k rfl, box_cell k rfl⟩
  have hcP : c.P = ⟨ca, n, cc, wa, words.length, wc, lk, rg, mode⟩ := by rw [hcc]
  have hcs : c.s0 = beginX n words lk rg := by rw [hcc]
  have hck : COk n L X words.length lk rg := by have := hok.cok; rw [hcc] at this; exact this
  have hst0 : StOk c 0 c.s0 := by
    rw [hcc]
    exact ⟨begin_ok, rfl, Nat.zero_le _⟩
  have HBEG : Hid (∀ W, Below w0.heap.size w0 W → Calls Tryd.prog 74 #[prgV ca n cc wa words.length wc lk rg, .int .i64 mode] W fun e w' => ∃ sb v, e = .returned (.pointer (some ⟨sb, 0, none⟩)) ∧ DSt w' W.heap.size c.P sb v c.s0 ∧ Below W.heap.size W w') := fun W h => by
    have := begin_any W ca n cc wa wc lk rg mode words (hw.below (hb0.trans (h.mono hb0.size))) hck.n4 hck.m64 hck.lk4 hck.rg0 hck.rg2
    rw [hcP, hcs]
    exact this
  have HS0 := Hid.out (p := Hid _) hst0
  have HMD : Hid (c.P.mode = mode) := by show _ = _; rw [hcP]
  obtain ⟨m, hm⟩ : ∃ m, words.length = m := ⟨_, rfl⟩
  rw [hm] at HP HBEG hw0 ⊢
  have HW0 : Hid (w.alloc (.cells #[.slice ca n cc, .slice wa m wc, .int .i64 (lk : Int), .int .i64 (rg : Int)] 25) = w0) := hw0.symm
  have HSTB := Hid.out (p := Hid _) (SpB.start w0)
  clear hcc hw hok hok0 hPB hcP hcs hck hst0 hm hw0 hb0
  go_enter Tryd.func46, Tryd.ntmps46
  go_wp2_with fail
  rw [HW0.out]
  go_loopw [6] (fun x wr => ∃ k : Nat, k ≤ 4096 ∧ x = .int .i64 k ∧ Hid (SpB w0 wr w0.heap.size (w.heap.size + 1) k)) (fun x _ => 4096 - (intOf x).toNat)
  case atStart => exact ⟨0, by omega, rfl, by rw [← hz0]; exact HSTB⟩
  case round =>
    obtain ⟨k, hk, rfl, HB⟩ := hrel
    clear HSTB
    by_cases hlt : k < 4096
    · obtain ⟨a, cq, g, cap, w3, p1, p2, p3, p4, HN⟩ := HB.out.push (by omega) HB.out.below.size
      have p1u := cell_up p1
      clear HB
      go_wp2
      go_roundw
      case rel => exact ⟨k + 1, by omega, by go_num, HN⟩
      case measure => simp [intOf]; omega
    · obtain rfl : k = 4096 := by omega
      obtain ⟨vb, hSp⟩ := HB.out.done c.P
      have hbr := HB.out.below
      have HSP := Hid.out (p := Hid _) hSp
      clear HB hSp hlt hk
      obtain ⟨q0, q1, q2, q3⟩ := HP.out _ hbr
      go_wp2_with fail
      refine Calls.mono (HBEG.out _ hbr) ?_
      rintro e w1 ⟨xb, vx, rfl, hD, hb1⟩
      have HC : Hid (Calls Tryd.prog 75 #[.pointer (some ⟨w.heap.size + 1, 0, none⟩), .pointer (some ⟨xb, 0, none⟩)] w1 fun e w' => e = .returned (.tuple #[]) ∧ ∃ v' d', SpO c w0 w' (w.heap.size + 1) v' d' none 0 [] 0 0) := by
        have hS1 := HSP.out.below hb1
        have hk := HOK.out.cok
        refine Calls.mono (sput_any w1 w0.heap.size c.P (w.heap.size + 1) vb d0 c.L c.m c.lk c.rg _ xb vx c.s0 hS1 hD (fun r g hg q e => ?_) HS0.out.ok HOK.out.n0 hk.n4 hk.m64 hk.lk4 hk.rg2 (by have := HS0.out.pr; omega) (by decide) (fun i hi => absurd hi (Nat.not_lt_zero _))) (fun e w' hq => SpO.start hS1 (hbr.trans (hb1.mono hbr.size)) HS0.out hq)
        have h1 := hD.fam.low r g hg
        have h2 := HSP.out.fam.lt e
        omega
      clear hD hb1 HSP hbr q0 q1 q2 q3 HBEG HP
      go_wp2_with fail
      refine Calls.mono HC.out ?_
      rintro e w2 ⟨rfl, v, d, hS⟩
      have HI : Hid (ByI c w0 w2 (w.heap.size + 1) 0 v d none 0 []) := ⟨⟨0, hS, fun _ => rfl⟩, Nat.zero_le _⟩
      clear HC hS HS0
      go_wp2_with fail
      go_loopw [8] (fun x wr => ∃ (i : Nat) (v : Sr → Value) (d : Sd) (ea : Option Addr) (ec : Nat) (es : List En), i ≤ 4001 ∧ x = .int .i64 i ∧ Hid (ByI c w0 wr (w.heap.size + 1) i v d ea ec es)) (fun x _ => 4002 - (intOf x).toNat)
      case atStart => exact ⟨0, v, d, none, 0, [], by omega, rfl, HI⟩
      case round =>
        obtain ⟨i, v, d, ea, ec, es, hi, rfl, HI⟩ := hrel
        obtain ⟨j, hS, hj⟩ := HI.out.ex
        have hle := HI.out.le
        have hfew := hS.few
        obtain ⟨sa, sc, hsv⟩ := fam_form (hS.sp.fam.own .st)
        have c0 := hS.sp.c0
        have c5 := hS.sp.c5
        have hsn : sN d .st = d.ss.length := rfl
        rw [hsn] at hsv
        rw [hsv] at c0
        obtain ⟨ns, hns⟩ : ∃ x, d.ss.length = x := ⟨_, rfl⟩
        obtain ⟨fu, hfu⟩ : ∃ x, d.full = x := ⟨_, rfl⟩
        have HNS : Hid (d.ss.length = ns ∧ d.full = fu ∧ v .st = .slice sa ns sc) := ⟨hns, hfu, by rw [← hns]; exact hsv⟩
        have HJ : Hid (SpO c w0 wr (w.heap.size + 1) v d ea ec es j (16 * i) ∧ (d.full = false → j = i)) := ⟨hS, hj⟩
        rw [hns] at c0 hle hfew
        rw [hfu] at c5
        clear hS hj hsv hsn hns hfu
        by_cases hgo : i < ns ∧ fu = false
        · obtain ⟨hlt, rfl⟩ := hgo
          obtain ⟨hb, hc, hbv, hbo⟩ := HJ.out.1.stB (by rw [HNS.out.1]; omega)
          have hsa : sa = some ⟨hb, 0, none⟩ := by
            have := HNS.out.2.2
            rw [hbv] at this
            simp only [Value.slice.injEq] at this
            exact this.1.symm
          subst hsa
          have cs := HJ.out.1.stC hbo (k := i) (by rw [HNS.out.1]; exact hlt)
          obtain ⟨xb, hxb⟩ : ∃ x, d.sbs.getD i 0 = x := ⟨_, rfl⟩
          obtain ⟨s, hs⟩ : ∃ s, d.ss.getD i default = s := ⟨_, rfl⟩
          rw [hxb] at cs
          have HS : Hid (ByS c w0 wr (w.heap.size + 1) i (16 * i) s xb v d ea ec es) := by
            have h1 := HJ.out.1
            rw [HJ.out.2 HNS.out.2.1] at h1
            exact ⟨h1, by rw [HNS.out.1]; exact hlt, hs, hxb⟩
          have HFU : Hid (d.full = false) := HNS.out.2.1
          have HC1 := Hid.out (p := Hid _) (HS.out.ended HOK.out)
          clear HJ HNS HI hbv hbo hxb hs
          go_wp2_with fail
          refine Calls.mono HC1.out ?_
          rintro e w3 ⟨rfl, hb3⟩
          have HS3 := Hid.out (p := Hid _) (HS.out.below hb3)
          have HC2 := Hid.out (p := Hid _) (HS3.out.moves HOK.out)
          clear HC1 hb3 HS c0 c5 cs
          obtain ⟨en, hen⟩ : ∃ b, endedX c.L s = b := ⟨_, rfl⟩
          have HEN : Hid (endedX c.L s = en) := hen
          rw [hen]
          clear hen
          go_wp2_with fail
          refine Calls.mono HC2.out ?_
          rintro e w4 ⟨la, ll, lc, rfl, hI, hb4⟩
          have HS4 := Hid.out (p := Hid _) (HS3.out.below hb4)
          have HLL : Hid ((movesX c.L c.X c.P.mode s).length = ll) := hI.is
          have hl16 : ll ≤ 16 := by rw [← HLL.out]; exact moves_few HS4.out.ok.ok HOK.out.cok.n4
          cases en with
          | true =>
            obtain ⟨wa', wl, wc', pa, pl, pc, k6, k8, HPUT⟩ := HS4.out.rest HOK.out (moves_ended HEN.out)
            rw [HEN.out] at HPUT
            clear HC2 hb4 HS3 hI HLL
            go_wp2_with fail
            refine region_tail 10 (by kernel_rfl) (by kernel_rfl) ?_
            simp only [List.take_succ_cons, List.take_zero, List.drop_succ_cons, List.drop_zero]
            repeat still_step
            refine wpStill_nil ?_
            go_wp2_with fail
            refine Calls.mono (HPUT.out _ (Below.refl _ _).drew) ?_
            rintro e w5 ⟨rfl, d5, ea5, ec5, es5, hI5⟩
            have HI5 := Hid.out (p := Hid _) hI5
            clear hI5 HPUT
            go_wp2_with fail
            go_roundw
            case rel => exact ⟨i + 1, v, d5, ea5, ec5, es5, by omega, by go_num, HI5⟩
            case measure => simp [intOf]; omega
          | false =>
            by_cases hl0 : ll = 0
            · subst hl0
              obtain ⟨wa', wl, wc', pa, pl, pc, k6, k8, HPUT⟩ := HS4.out.rest HOK.out (List.eq_nil_of_length_eq_zero HLL.out)
              rw [HEN.out] at HPUT
              clear HC2 hb4 HS3 hI HLL
              go_wp2_with fail
              refine region_tail 10 (by kernel_rfl) (by kernel_rfl) ?_
              simp only [List.take_succ_cons, List.take_zero, List.drop_succ_cons, List.drop_zero]
              repeat still_step
              refine wpStill_nil ?_
              go_wp2_with fail
              refine Calls.mono (HPUT.out _ (Below.refl _ _).drew) ?_
              rintro e w5 ⟨rfl, d5, ea5, ec5, es5, hI5⟩
              have HI5 := Hid.out (p := Hid _) hI5
              clear hI5 HPUT
              go_wp2_with fail
              go_roundw
              case rel => exact ⟨i + 1, v, d5, ea5, ec5, es5, by omega, by go_num, HI5⟩
              case measure => simp [intOf]; omega
            · obtain ⟨lb, lcp, h1, h2, _, _⟩ := fam_block hI.own (by omega)
              simp only [Value.slice.injEq] at h1
              obtain ⟨rfl, _, _⟩ := h1
              have HK : Hid (ByK c w0 w4 (w.heap.size + 1) i 0 s xb lb v d ea ec es) := by
                refine ⟨HS4.out, fun j hj => absurd hj (Nat.not_lt_zero _), fun j hj => fam_cell hI.own h2 (intsV_at hj), fun q e => ?_⟩
                have h3 := (hI.own.lt lb h2).1
                have h4 := HS3.out.sp.sp.fam.lt e
                omega
              have HNIL : Hid (movesX c.L c.X c.P.mode s ≠ []) := fun h => hl0 (by rw [← HLL.out, h]; rfl)
              have hq0 : ((ll : Int) == 0) = false := by simpa using hl0
              clear HC2 hb4 HS3 HS4 hI h2 HEN
              go_wp2_with fail
              go_loopw [12] (fun x wi => ∃ (k : Nat) (v : Sr → Value) (d : Sd) (ea : Option Addr) (ec : Nat) (es : List En), k ≤ ll ∧ x = .int .i64 k ∧ Hid (ByK c w0 wi (w.heap.size + 1) i k s xb lb v d ea ec es)) (fun x _ => ll - (intOf x).toNat)
              case atStart => exact ⟨0, v, d, ea, ec, es, by omega, rfl, HK⟩
              case round =>
                clear HFU HK
                obtain ⟨k, v, d, ea, ec, es, hk, rfl, HK⟩ := hrel
                have c5 := HK.out.bs.sp.sp.c5
                obtain ⟨fu, hfu⟩ : ∃ x, d.full = x := ⟨_, rfl⟩
                have HFU : Hid (d.full = fu) := hfu
                rw [hfu] at c5
                clear hfu
                by_cases hgo : k < ll ∧ fu = false
                · obtain ⟨hkl, rfl⟩ := hgo
                  have HKL : Hid (k < (movesX c.L c.X c.P.mode s).length) := by show _ < _; rw [HLL.out]; exact hkl
                  have HC3 := Hid.out (p := Hid _) (HK.out.copy HOK.out)
                  go_wp2_with fail
                  refine Calls.mono HC3.out ?_
                  rintro e w5 ⟨yb, vy, rfl, hD5, hb5⟩
                  have cm := (HK.out.below hb5).mv k HKL.out
                  have HC4 := Hid.out (p := Hid _) (HK.out.move HOK.out hb5 hD5 HKL.out)
                  obtain ⟨mv, hmv⟩ : ∃ x, (movesX c.L c.X c.P.mode s).getD k 0 = x := ⟨_, rfl⟩
                  have HMV : Hid ((movesX c.L c.X c.P.mode s).getD k 0 = mv) := hmv
                  rw [hmv] at cm HC4
                  clear HC3 hD5 hb5 hmv HK c5
                  go_wp2_with fail
                  refine Calls.mono HC4.out ?_
                  rintro e w6 ⟨rfl, hK6, vy6, hD6, ho6⟩
                  have c9 := hD6.c9
                  obtain ⟨s', hs'⟩ : ∃ x, doX c.X c.P.mode s mv.toNat = x := ⟨_, rfl⟩
                  have HS' : Hid (doX c.X c.P.mode s ((movesX c.L c.X c.P.mode s).getD k 0).toNat = s') := by show _ = _; rw [HMV.out]; exact hs'
                  rw [hs'] at c9 hD6
                  have HK6 := Hid.out (p := Hid _) hK6
                  clear HC4 cm hK6 hs' HMV
                  cases hf : s'.fell with
                  | true =>
                    rw [hf] at c9
                    obtain ⟨pa, pl, pc, k8, HPUT⟩ := HK6.out.fall HOK.out HKL.out HS'.out hD6 ho6 hf
                    clear hD6 ho6 hf HK6 HS' HKL
                    go_wp2_with fail
                    refine Calls.mono HPUT.out ?_
                    rintro e w7 ⟨rfl, d7, ea7, ec7, es7, _, hK7⟩
                    have HK7 := Hid.out (p := Hid _) hK7
                    clear hK7 HPUT
                    go_wp2_with fail
                    go_roundw
                    case rel => exact ⟨k + 1, v, d7, ea7, ec7, es7, by omega, by go_num, HK7⟩
                    case measure => simp [intOf]; omega
                  | false =>
                    rw [hf] at c9
                    have HPUT := Hid.out (p := Hid _) (HK6.out.come HOK.out HKL.out HS'.out hD6 ho6 hf HFU.out)
                    clear hD6 ho6 hf HK6 HS' HKL
                    go_wp2_with fail
                    refine Calls.mono HPUT.out ?_
                    rintro e w7 ⟨rfl, v7, d7, hK7⟩
                    have HK7 := Hid.out (p := Hid _) hK7
                    clear hK7 HPUT
                    go_wp2_with fail
                    go_roundw
                    case rel => exact ⟨k + 1, v7, d7, ea, ec, es, by omega, by go_num, HK7⟩
                    case measure => simp [intOf]; omega
                · have HI5 : Hid (ByI c w0 wr (w.heap.size + 1) (i + 1) v d ea ec es) := HK.out.done (by omega) HNIL.out (fun hf => by
                    rw [HFU.out] at hf
                    rw [HLL.out]
                    by_cases h1 : k < ll
                    · exact absurd ⟨h1, hf⟩ hgo
                    · omega)
                  by_cases hkl : k < ll
                  · have hft : fu = true := by
                      cases fu with
                      | true => rfl
                      | false => exact absurd ⟨hkl, rfl⟩ hgo
                    subst hft
                    clear HK HFU hgo
                    go_wp2_with fail
                    go_roundw
                    case rel => exact ⟨i + 1, v, d, ea, ec, es, by omega, by go_num, HI5⟩
                    case measure => simp [intOf]; omega
                  · clear HK HFU hgo
                    go_wp2_with fail
                    go_roundw
                    case rel => exact ⟨i + 1, v, d, ea, ec, es, by omega, by go_num, HI5⟩
                    case measure => simp [intOf]; omega
        · have HR : Hid (ByQ c w0 (.returned (.pointer (some ⟨w.heap.size + 1, 0, none⟩))) wr) := by
            refine ⟨w.heap.size + 1, v, d, ea, ec, es, j, _, rfl, HJ.out.1, by have h1 := HJ.out.1.few; have h2 := HI.out.le; omega, fun hf => ?_⟩
            rw [HJ.out.2 hf, HNS.out.1]
            by_cases h1 : i < ns
            · exact absurd ⟨h1, by rw [← HNS.out.2.1]; exact hf⟩ hgo
            · omega
          by_cases hlt : i < ns
          · have hft : fu = true := by
              cases fu with
              | true => rfl
              | false => exact absurd ⟨hlt, rfl⟩ hgo
            subst hft
            clear HJ HNS HI hgo
            go_wp2_with fail
            go_ret
            exact HR.out
          · clear HJ HNS HI hgo
            go_wp2_with fail
            go_ret
            exact HR.out

end Go.Proofs.YtocfocjnnjdcgaaDoor
