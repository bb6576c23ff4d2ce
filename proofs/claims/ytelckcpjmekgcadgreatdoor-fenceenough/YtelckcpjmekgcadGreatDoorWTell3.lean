/-
  Orders anew, by the program: what is known of the new program while it is made.
  What the program tells of a state, in whichever memory.
-/
import Derived.Test.YtelckcpjmekgcadGreatDoorFLead
import Derived.Test.YtelckcpjmekgcadGreatDoorInProg
import Derived.Test.YtelckcpjmekgcadGreatDoorRMay
import Derived.Test.YtelckcpjmekgcadGreatDoorWTell2
namespace Go.Proofs.YtelckcpjmekgcadGreatDoor
section
open Go.RowKit

theorem grown_block {w w' : World} {r : Option Nat} (h : w.grownBy w' r) {g : Nat} (hg : g < w.heap.size) (hne : r ≠ some g) : w'.heap[g]? = w.heap[g]? := h.block g hg (fun e => hne e.symm)
/-- A row stays where another one grows. -/
theorem own_grown {w w' : World} {r : Option Nat} {B : Nat} {e : TypeId} {size : Nat} {v : Value} {n : Nat} {xs : List Value} (h : w.ownsRow B e size v n xs) (hg : w.grownBy w' r) (hne : ∀ g, v.ownBlock = some g → r ≠ some g) : w'.ownsRow B e size v n xs :=
  fam_keeps h fun g e => grown_block hg (h.lt g e).2 (hne g e)
/-- What is known while a thread's orders are made: from the world S on. j orders, i places. -/
structure InI (S : World) (b : Nat → List I4) (j i : Nat) (W : World) (cv pv : Value) : Prop where
  low : Below S.heap.size S W
  code : OwnC W S.heap.size cv (rawR b j)
  pls : W.ownsRow S.heap.size 3 1 pv i (intsV ((List.range i).map fun k => (plR b k : Int)))
  apart : ∀ g, cv.ownBlock = some g → pv.ownBlock ≠ some g
section
variable {S W : World} {b : Nat → List I4} {j i : Nat} {cv pv : Value}
theorem InI.start (S : World) (b : Nat → List I4) : InI S b 0 0 S nilV nilV := ⟨Below.refl _ _, World.ownsRow_nil _ _ _ _, World.ownsRow_nil _ _ _ _, fun g h => by simp [Value.ownBlock] at h⟩
theorem InI.below (h : InI S b j i W cv pv) {W' : World} (hb : Below W.heap.size W W') : InI S b j i W' cv pv := ⟨h.low.trans (hb.mono h.low.size), h.code.below hb, owns_below2 h.pls hb, h.apart⟩
/-- One place more. -/
theorem InI.place (h : InI S b j i W cv pv) {V : World} (hb : Below W.heap.size W V) {q : Nat} (hq : q = plR b i) (hi : i ≤ 1000) :
    ∃ g cap w3, (AppS #[23, 23] 23 #[pv, .slice (some ⟨V.heap.size, 0, none⟩) 1 1]).run Tryz.prog (V.alloc (.cells #[.int .i64 q] 3)) = .ok (.slice (some ⟨g, 0, none⟩) (i + 1) cap) w3 ∧ InI S b j (i + 1) w3 cv (.slice (some ⟨g, 0, none⟩) (i + 1) cap) ∧ Below S.heap.size S w3 := by
  have h0 := h.below hb
  obtain ⟨g, cap, w3, r1, r2, r3, r4⟩ := app_row (T := 23) Tryz.underlying23 infoI rfl (by omega) h0.pls (Below.refl _ V) h0.low.size 1 #[.int .i64 q] rfl (by simp [Value.oneCell']) (by omega) (by omega) (by omega)
  have hl := h0.low.size
  have hlow : Below S.heap.size S w3 := (h0.low.alloc hl _).grown r3 (by simp; omega) (fun k hk => by have := (h0.pls.lt k hk).1; omega)
  refine ⟨g, cap, w3, r1, ⟨hlow, ?_, ?_, fun k hk => ?_⟩, hlow⟩
  · exact own_grown (show (V.alloc (.cells #[.int .i64 q] 3)).ownsRow _ _ _ _ _ _ from owns_below2 h0.code ((Below.refl _ _).alloc (Nat.le_refl _) _)) r3 (fun k hk e => h0.apart k hk e)
  · have e : intsV ((List.range (i + 1)).map fun k => (plR b k : Int)) = intsV ((List.range i).map fun k => (plR b k : Int)) ++ [.int .i64 q] := by
      rw [List.range_succ, List.map_append, hq]
      simp [intsV]
    rw [e]
    exact r2
  · intro e
    have eg : g = k := by simpa [Value.ownBlock] using e
    subst eg
    rcases r4 with r4 | r4
    · exact h0.apart g hk r4
    · have := (h0.code.lt g hk).2
      omega
/-- More orders. -/
theorem InI.more (h : InI S b j i W cv pv) {V : World} (hb : Below W.heap.size W V) (sa : Option Addr) (c : Nat) (hs : SrcL V sa (cellsT (b j))) (hl : plR b j + (b j).length ≤ 1000000) :
    ∃ v w3, (AppS #[35, 35] 35 #[cv, .slice sa (b j).length c]).run Tryz.prog V = .ok v w3 ∧ InI S b (j + 1) i w3 v pv ∧ Below S.heap.size S w3 := by
  have h0 := h.below hb
  obtain ⟨v, w3, r1, r2, r3, r4⟩ := app_code h0.code h0.low.size sa c (b j) hs (by rw [raw_len]; exact hl)
  have hlow : Below S.heap.size S w3 := h0.low.grown r3 h0.low.size (fun k hk => (h0.code.lt k hk).1)
  refine ⟨v, w3, r1, ⟨hlow, r2, own_grown h0.pls r3 (fun g e1 e2 => h0.apart g e2 e1), fun g e1 e2 => ?_⟩, hlow⟩
  rcases r4 with r4 | r4
  · exact h0.apart g (by rw [← r4]; exact e1) e2
  · rw [r4] at e1
    have := (h0.pls.lt g e2).2
    have : V.heap.size = g := by simpa using e1
    omega
/-- The places lie there. -/
theorem InI.sis (h : InI S b j i W cv pv) {a : Option Addr} {c : Nat} (hv : pv = .slice a i c) : SIs W a ((List.range i).map fun k => (plR b k : Int)) := fun k hk => by
  have hk' : k < i := by simpa using hk
  obtain ⟨g, cap, e, hg, _⟩ := fam_block h.pls (by omega)
  rw [hv] at e
  simp only [Value.slice.injEq] at e
  refine ⟨g, 0, e.1, ?_⟩
  have := fam_cell h.pls hg (intsV_at (l := (List.range i).map fun k => (plR b k : Int)) hk)
  rw [Nat.zero_add]
  exact this
end
/-- What is known of the new program while it is made: from the world S on, its box at qb, k threads. -/
structure RwI (S : World) (qb : Nat) (uv : Value) (words : List Int) (lk rg : Int) (b : Nat → Nat → List I4) (L : Nat → Nat) (k : Nat) (W : World) (cv : Value) (tv : List Value) : Prop where
  low : Below S.heap.size S W
  hq : S.heap.size ≤ qb
  box : W.heap[qb]? = some (.cells #[cv, uv, .int .i64 lk, .int .i64 rg] 25)
  words : W.ownsRow S.heap.size 3 1 uv words.length (intsV words)
  wq : uv.ownBlock ≠ some qb
  code : W.ownsRow S.heap.size 35 1 cv k tv
  cq : cv.ownBlock ≠ some qb
  cw : ∀ g, uv.ownBlock = some g → cv.ownBlock ≠ some g
  thr : ∀ t, t < k → OwnC W S.heap.size (tv.getD t nilV) (codeR (b t) (L t)) ∧ ∀ g, (tv.getD t nilV).ownBlock = some g → g ≠ qb ∧ cv.ownBlock ≠ some g
section
variable {S W : World} {qb : Nat} {uv cv : Value} {words : List Int} {lk rg : Int} {b : Nat → Nat → List I4} {L : Nat → Nat} {k : Nat} {tv : List Value}
theorem RwI.below (h : RwI S qb uv words lk rg b L k W cv tv) {W' : World} (hb : Below W.heap.size W W') : RwI S qb uv words lk rg b L k W' cv tv :=
  ⟨h.low.trans (hb.mono h.low.size), h.hq, (hb.block _ (box_lt h.box)).trans h.box, owns_below2 h.words hb, h.wq, owns_below2 h.code hb, h.cq, h.cw, fun t ht => ⟨(h.thr t ht).1.below hb, (h.thr t ht).2⟩⟩
/-- One thread more. -/
theorem RwI.push (h : RwI S qb uv words lk rg b L k W cv tv) {V : World} (hb : Below W.heap.size W V) {v : Value} {T : Nat} (hT : W.heap.size ≤ T) (hv : OwnC V T v (codeR (b k) (L k))) (hk : k ≤ 1000) :
    ∃ g cap w3, (AppS #[22, 22] 22 #[cv, .slice (some ⟨V.heap.size, 0, none⟩) 1 1]).run Tryz.prog (V.alloc (.cells #[v] 35)) = .ok (.slice (some ⟨g, 0, none⟩) (k + 1) cap) w3 ∧ w3.heap[qb]? = some (.cells #[cv, uv, .int .i64 lk, .int .i64 rg] 25) ∧ Below S.heap.size S w3 ∧
      RwI S qb uv words lk rg b L (k + 1) (w3.setCell ⟨qb, 0, none⟩ (.slice (some ⟨g, 0, none⟩) (k + 1) cap)) (.slice (some ⟨g, 0, none⟩) (k + 1) cap) (tv ++ [v]) := by
  have h0 := h.below hb
  have hl := h0.low.size
  have hwq : qb < W.heap.size := box_lt h.box
  have hone : v.oneCell' = true := by
    rcases hv.2 with ⟨rfl, _⟩ | ⟨g, cap, cur, rfl, _⟩ <;> rfl
  obtain ⟨g, cap, w3, r1, r2, r3, r4⟩ := app_row (T := 22) Tryz.underlying22 infoOs rfl (by omega) h0.code (Below.refl _ V) hl 1 #[v] rfl (by simp [hone]) (by omega) (by omega) (by omega)
  have hbA : Below V.heap.size V (V.alloc (.cells #[v] 35)) := (Below.refl _ _).alloc (Nat.le_refl _) _
  have hlow : Below S.heap.size S w3 := (h0.low.alloc hl _).grown r3 (by simp; omega) (fun q hq => (h0.code.lt q hq).1)
  have hq3 : w3.heap[qb]? = some (.cells #[cv, uv, .int .i64 lk, .int .i64 rg] 25) := by
    rw [grown_block r3 (by simp; have := box_lt h0.box; omega) h0.cq]
    exact (hbA.block _ (box_lt h0.box)).trans h0.box
  have hgq : g ≠ qb := fun e => by
    rcases r4 with r4 | r4
    · exact h0.cq (by rw [r4, e])
    · have := box_lt h0.box
      omega
  have hold : ∀ x, x < V.heap.size → cv.ownBlock ≠ some x → x ≠ g := fun x hx hne e => by
    rcases r4 with r4 | r4
    · exact hne (by rw [r4, e])
    · omega
  have htl : tv.length = k := by have := h.code.1; omega
  refine ⟨g, cap, w3, r1, hq3, hlow, ⟨hlow.setCell h.hq _, h.hq, ?_, ?_, h.wq, ?_, ?_, fun x hx e => ?_, fun t ht => ?_⟩⟩
  · rw [heap_set_same hq3]
    rfl
  · exact owns_far (own_grown (owns_below2 h0.words hbA) r3 (fun x hx => h0.cw x hx)) h.wq
  · refine owns_far r2 ?_
    simp only [Value.ownBlock]
    exact fun e => hgq (by simpa using e)
  · simp only [Value.ownBlock]
    exact fun e => hgq (by simpa using e)
  · have : g = x := by simpa [Value.ownBlock] using e
    exact hold x (h0.words.lt x hx).2 (h0.cw x hx) this.symm
  · by_cases e : t = k
    · subst e
      have e1 : (tv ++ [v]).getD t nilV = v := by simp [List.getD, ← htl]
      rw [e1]
      have hvq : ∀ x, v.ownBlock = some x → x ≠ qb ∧ x < V.heap.size ∧ cv.ownBlock ≠ some x := fun x hx => by
        have h1 := hv.lt x hx
        refine ⟨by omega, h1.2, fun e2 => ?_⟩
        have := (h.code.lt x e2).2
        omega
      refine ⟨owns_far (own_grown (owns_below2 (own_low hv (by have := h.low.size; omega)) hbA) r3 (fun x hx => (hvq x hx).2.2)) (fun e2 => (hvq qb e2).1 rfl), fun x hx => ⟨(hvq x hx).1, fun e2 => ?_⟩⟩
      have : g = x := by simpa [Value.ownBlock] using e2
      exact hold x (hvq x hx).2.1 (hvq x hx).2.2 this.symm
    · have ht' : t < k := by omega
      have e1 : (tv ++ [v]).getD t nilV = tv.getD t nilV := by simp [List.getD, List.getElem?_append_left (show t < tv.length by omega)]
      rw [e1]
      have h1 := h0.thr t ht'
      refine ⟨owns_far (own_grown (owns_below2 h1.1 hbA) r3 (fun x hx => (h1.2 x hx).2)) (fun e2 => (h1.2 qb e2).1 rfl), fun x hx => ⟨(h1.2 x hx).1, fun e2 => ?_⟩⟩
      have : g = x := by simpa [Value.ownBlock] using e2
      exact hold x (h1.1.lt x hx).2 (h1.2 x hx).2 this.symm
end
end

section
open Go.RowKit

/-- What must be known of a state that is told. -/
structure TOk (Q : Cd) (s : Sx) : Prop where
  nt : Q.nt = s.ths.length
  n0 : 0 < s.ths.length
  n4 : s.ths.length ≤ 4
  pc : ∀ t, t < s.ths.length → (thOf s t).pc ≤ 1000
  rg : ∀ t, t < s.ths.length → (thOf s t).regs.length ≤ 200
  wl : ∀ t, t < s.ths.length → (thOf s t).wait.length ≤ 3
  wk : ∀ t, t < s.ths.length → ∀ x, x ∈ (thOf s t).wait → 0 ≤ x.wh ∧ x.wh ≤ 64
  words : s.words.length ≤ 64
  own : s.own.length ≤ 4
  pr : s.prints.length ≤ 10000
  v : VOk s
/-- What a kind of memory tells. -/
structure MTell (K : Mk) (tf : Nat) : Prop where
  mTell : ∀ (a : Addr) (w : World), (method 321 K.tid (.pointer (some a)) "Tell").run Tryz.prog w = .ok (tf, .pointer (some a)) w
  cTell : ∀ (xs : Array Value) (w : World), (callFunc tf xs).run Tryz.prog w = .ok (.enter tf xs) w
  tell : ∀ (w : World) (fid : Nat) (caps : Array Value) (B : Nat) (Q : Cd) (sb mb : Nat) (v : Rp → Value) (s : Sx) (I : List Int → World → Prop) (xs : List Int), Q.K = K → Ear fid caps B Q sb mb v s I → TOk Q s → xs.length ≤ 10000 → I xs w →
    Calls Tryz.prog tf #[.pointer (some ⟨Q.top mb, 0, none⟩), .func (.func fid) #[] caps] w fun e w' => e = .returned (.tuple #[]) ∧ I (xs ++ telM K.mode s) w'
theorem plain_tell : MTell plainK 134 where
  mTell a w := by kernel_rfl
  cTell xs w := by kernel_rfl
  tell w fid caps B Q sb mb v s I xs hK hE ho hx h0 := by
    rw [plain_top hK]
    have h1 := ho.words
    have h2 := ho.own
    refine (ptell_any w fid caps B Q sb mb v s I hE xs ho.v.words ho.v.own (by omega) h0).mono fun e w' h => ⟨h.1, ?_⟩
    have e : telM plainK.mode s = s.words ++ s.own := by
      unfold telM
      rw [if_neg (by decide), List.append_nil]
    rw [e, ← List.append_assoc]
    exact h.2
theorem buf_tell : MTell bufK 145 where
  mTell a w := by kernel_rfl
  cTell xs w := by kernel_rfl
  tell w fid caps B Q sb mb v s I xs hK hE ho hx h0 := by
    rw [buf_top hK]
    have h1 := ho.words
    have h2 := ho.own
    refine (btell_any w fid caps B Q sb mb v s I hE hK ho.nt ho.n0 ho.n4 ho.wl ho.wk (fun t ht x hx => ho.v.wait _ (thOf_mem ht) x hx) xs ho.v.words ho.v.own (by omega) h0).mono fun e w' h => ⟨h.1, ?_⟩
    have e : telM bufK.mode s = s.words ++ s.own ++ s.ths.flatMap telB := by
      unfold telM
      rw [if_pos (by decide)]
    rw [e, ← List.append_assoc, ← List.append_assoc]
    exact h.2
/-- What is told of the first j threads. -/
def telTs (s : Sx) (j : Nat) : List Int := (List.range j).flatMap fun t => telT (thOf s t)
theorem telTs_all (s : Sx) : telTs s s.ths.length = s.ths.flatMap telT := by
  unfold telTs
  conv => rhs; rw [show s.ths = (List.range s.ths.length).map (thOf s) by
    refine List.ext_getElem? fun i => ?_
    rw [List.getElem?_map]
    by_cases h : i < s.ths.length
    · rw [List.getElem?_range h, List.getElem?_eq_getElem h]
      show _ = some (thOf s i)
      unfold thOf
      rw [List.getD_eq_getElem?_getD, List.getElem?_eq_getElem h]; rfl
    · rw [List.getElem?_eq_none (by omega), List.getElem?_eq_none (by simpa using h)]; rfl]
  rw [List.flatMap_map]
theorem telTs_succ (s : Sx) (j : Nat) : telTs s (j + 1) = telTs s j ++ [((thOf s j).pc : Int)] ++ (thOf s j).regs := by
  unfold telTs
  rw [List.range_succ, List.flatMap_append]
  simp [telT]

set_option maxRecDepth 100000 in
set_option maxHeartbeats 3200000 in
/-- What is told of a state. -/
theorem stell_any (w : World) (fid : Nat) (caps : Array Value) (B : Nat) (Q : Cd) (sb mb : Nat) (v : Rp → Value) (s : Sx) (I : List Int → World → Prop) (hE : Ear fid caps B Q sb mb v s I) (tf : Nat) (hT : MTell Q.K tf) (ho : TOk Q s) (h0 : I [] w) :
    Calls Tryz.prog 68 #[.pointer (some ⟨sb, 0, none⟩), .func (.func fid) #[] caps] w fun e w' => e = .returned (.tuple #[]) ∧ I (telX Q.K.mode s) w' := by
  have hs := hE.st _ _ h0
  obtain ⟨tb, tc, hth, htb, _⟩ := hs.blk .thr (by show 0 < s.ths.length; exact ho.n0)
  change v .thr = .slice (some ⟨tb, 0, none⟩) s.ths.length tc at hth
  have kF := hE.fn
  have mT := hT.mTell
  have kT := hT.cTell
  obtain ⟨n, hn⟩ : ∃ n, s.ths.length = n := ⟨_, rfl⟩
  have hn4 : n ≤ 4 := by rw [← hn]; exact ho.n4
  have hlen : ∀ j, j ≤ n → (telTs s j).length ≤ 201 * j := by
    intro j
    induction j with
    | zero => intro _; simp [telTs]
    | succ j ih =>
      intro hj
      rw [telTs_succ]
      have h1 := ih (by omega)
      have h2 := ho.rg j (by omega)
      simp only [List.length_append, List.length_singleton]
      omega
  have HB : Hid (∀ ys W, I ys W → W.cell? ⟨sb, 1, none⟩ = some (.slice (some ⟨tb, 0, none⟩) n tc) ∧ W.cell? ⟨sb, 0, none⟩ = some (.iface Q.K.tid (.pointer (some ⟨Q.top mb, 0, none⟩)))) := fun ys W h => by
    have hq := hE.st _ _ h
    have c1 := hq.c1
    rw [hth, hn] at c1
    exact ⟨c1, hq.c0⟩
  have HP : Hid (∀ ys W j, j < n → I ys W → W.cell? ⟨tb, j * 3 + 1, none⟩ = some (.int .i64 (thOf s j).pc)) := fun ys W j hj h => (hE.st _ _ h).pc htb (by omega)
  have HR : Hid (∀ ys W j, j < n → ys.length ≤ 10000 → I ys W → ∃ a c, W.cell? ⟨tb, j * 3 + 2, none⟩ = some (.slice a (thOf s j).regs.length c) ∧ Hid (Calls Tryz.prog 86 #[.slice a (thOf s j).regs.length c, .func (.func fid) #[] caps] W fun e w' => e = .returned (.tuple #[]) ∧ I (ys ++ (thOf s j).regs) w')) := fun ys W j hj hy h => by
    have hjs : j < s.ths.length := by omega
    obtain ⟨a, c, e, hc⟩ := hE.regs h j (fun x hx => ho.v.regs _ (thOf_mem hjs) x hx) (by have := ho.rg j hjs; omega)
    have := (hE.st _ _ h).regs htb hjs
    rw [e] at this
    exact ⟨a, c, this, hc⟩
  have HT : Hid (∀ ys W m, I64n m → ys.length ≤ 20000 → I ys W → Calls Tryz.prog fid (#[.int .i64 m] ++ caps) W fun e W' => e = .returned (.tuple #[]) ∧ I (ys ++ [m]) W' ∧ Txt W W') := hE.tell
  have HM : Hid (∀ ys W, ys.length ≤ 10000 → I ys W → Calls Tryz.prog tf #[.pointer (some ⟨Q.top mb, 0, none⟩), .func (.func fid) #[] caps] W fun e w' => e = .returned (.tuple #[]) ∧ I (ys ++ telM Q.K.mode s) w') := fun ys W hy h => hT.tell W fid caps B Q sb mb v s I ys rfl hE ho hy h
  have HPR : Hid (∀ ys W, ys.length ≤ 10000 → I ys W → ∃ a c, W.cell? ⟨sb, 2, none⟩ = some (.slice a s.prints.length c) ∧ Hid (Calls Tryz.prog 86 #[.slice a s.prints.length c, .func (.func fid) #[] caps] W fun e w' => e = .returned (.tuple #[]) ∧ I (ys ++ s.prints) w')) := fun ys W hy h => by
    obtain ⟨a, c, e, hc⟩ := hE.prints h ho.v.prints (by have := ho.pr; omega)
    have := (hE.st _ _ h).c2
    rw [e] at this
    exact ⟨a, c, this, hc⟩
  have HPC : Hid (∀ j, j < n → (thOf s j).pc ≤ 1000) := fun j hj => ho.pc j (by omega)
  have HL := Hid.out (p := Hid _) hlen
  have HML : Hid ((telM Q.K.mode s).length ≤ 200) := by
    show _ ≤ _
    unfold telM
    have h1 := ho.words
    have h2 := ho.own
    have h3 : (s.ths.flatMap telB).length ≤ 28 := by
      rw [← telBs_all]
      have : ∀ j, j ≤ s.ths.length → (telBs s j).length ≤ 7 * j := by
        intro j
        induction j with
        | zero => intro _; simp [telBs]
        | succ j ih =>
          intro hj
          rw [telBs_succ]
          have h1 := ih (by omega)
          have h2 := ho.wl j (by omega)
          have h3 : ((thOf s j).wait.flatMap telW).length = 2 * (thOf s j).wait.length := by
            generalize (thOf s j).wait = l
            induction l with
            | nil => rfl
            | cons a r ih => rw [List.flatMap_cons, List.length_append, ih]; simp [telW]; omega
          simp only [List.length_append, List.length_singleton, h3]
          omega
      have h4 := this _ (Nat.le_refl _)
      have h5 := ho.n4
      omega
    split
    · simp only [List.length_append]; omega
    · simp only [List.length_append, List.length_nil]; omega
  have HALL : Hid (telTs s n ++ telM Q.K.mode s ++ s.prints = telX Q.K.mode s) := by
    show _ = _
    rw [← hn, telTs_all]; rfl
  have c1 := (HB.out _ _ h0).1
  have H0 : Hid (I (telTs s 0) w) := h0
  clear hE hs hth htb hT ho hlen hn h0
  go_enter Tryz.func68, Tryz.ntmps68
  go_wp2_with fail
  go_loopw [10] (fun i wr => ∃ j : Nat, j ≤ n ∧ i = .int .i64 j ∧ Hid (I (telTs s j) wr)) (fun i _ => n - (intOf i).toNat)
  case atStart => exact ⟨0, Nat.zero_le _, rfl, H0⟩
  case round =>
    obtain ⟨j, hj, rfl, HI⟩ := hrel
    clear H0 c1
    obtain ⟨c1, c0⟩ := HB.out _ _ HI.out
    by_cases hlt : j < n
    · have cp := HP.out _ _ j hlt HI.out
      have hpc := HPC.out j hlt
      have hl := HL.out j (by omega)
      obtain ⟨pc, epc⟩ : ∃ x, (thOf s j).pc = x := ⟨_, rfl⟩
      have HEP : Hid ((thOf s j).pc = pc) := epc
      rw [epc] at cp hpc
      have HC1 := Hid.out (p := Hid _) (HT.out _ wr (pc : Int) ⟨by omega, by omega⟩ (by omega) HI.out)
      clear epc HI
      go_wp2_with fail
      refine Calls.mono HC1.out ?_
      rintro e w1 ⟨rfl, h1, _⟩
      obtain ⟨c11, _⟩ := HB.out _ _ h1
      obtain ⟨a, c, cr, HC2⟩ := HR.out _ _ j hlt (by rw [List.length_append]; simp only [List.length_singleton]; omega) h1
      obtain ⟨rl, erl⟩ : ∃ x, (thOf s j).regs.length = x := ⟨_, rfl⟩
      rw [erl] at cr HC2
      clear HC1 h1 erl c1 cp
      go_wp2_with fail
      refine Calls.mono HC2.out ?_
      rintro e w2 ⟨rfl, h2⟩
      have H2 : Hid (I (telTs s (j + 1)) w2) := by
        show I _ _
        rw [telTs_succ, HEP.out]
        exact h2
      clear HC2 h2
      go_wp2_with fail
      go_roundw
      case rel => exact ⟨j + 1, by omega, by go_num, H2⟩
      case measure => simp [intOf]; omega
    · obtain rfl : j = n := by omega
      have hl := HL.out j (Nat.le_refl _)
      have HC1 := Hid.out (p := Hid _) (HM.out _ wr (by omega) HI.out)
      clear HI
      go_wp2_with fail
      refine Calls.mono HC1.out ?_
      rintro e w1 ⟨rfl, h1⟩
      obtain ⟨a, c, cp, HC2⟩ := HPR.out _ _ (by rw [List.length_append]; have := HML.out; omega) h1
      obtain ⟨pl, epl⟩ : ∃ x, s.prints.length = x := ⟨_, rfl⟩
      rw [epl] at cp HC2
      clear HC1 h1 epl
      go_wp2_with fail
      refine Calls.mono HC2.out ?_
      rintro e w2 ⟨rfl, h2⟩
      have H2 : Hid (I (telX Q.K.mode s) w2) := by
        show I _ _
        rw [← HALL.out]
        exact h2
      clear HC2 h2
      go_wp2_with fail
      go_end0
      exact ⟨rfl, H2.out⟩
end

end Go.Proofs.YtelckcpjmekgcadGreatDoor
