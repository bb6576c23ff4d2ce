/-
  States that are gone through by the program, the last one first: plain functions.
  What the program knows while it goes through states: as it lies in memory, and what stays as it was.
-/
import Derived.Test.YtipdnfpomdcenabGreatDoorReachP
import Derived.Test.YtipdnfpomdcenabGreatDoorWTell3
import Derived.Test.YtipdnfpomdcenabGreatDoorWClone5
import Derived.Test.YtipdnfpomdcenabGreatDoorRDoW
import Derived.Maps.OwnSet
import Derived.StringKeys
import Derived.Laws.IdiomStrings
namespace Go.Proofs.YtipdnfpomdcenabGreatDoor
section
open Go.RowKit

/-- What holds while the program goes through states: K known, P gone through, Z begun, O still open, F those that fell. -/
structure Df (L : Nat → Nat) (X : Nat → Nat → Nat → Int) (mode : Int) (s0 : Sx) (K P Z O F : List Sx) : Prop where
  nodup : K.Nodup
  first : s0 ∈ K
  reach : ∀ s, s ∈ K → Rch (nxX L X mode) s0 s
  split : ∀ s, s ∈ K ↔ s ∈ Z ∨ s ∈ O
  zo : (Z ++ O).Nodup
  next : ∀ s, s ∈ P → ∀ t, t ∈ nxX L X mode s → t ∈ K
  fin : ∀ f, f ∈ F → ∃ s mv, s ∈ Z ∧ mv ∈ movesX L X mode s ∧ doX X mode s mv.toNat = f ∧ f.fell = true
  fall : ∀ s, s ∈ P → ∀ mv, mv ∈ movesX L X mode s → (doX X mode s mv.toNat).fell = true → doX X mode s mv.toNat ∈ F
section
variable {L : Nat → Nat} {X : Nat → Nat → Nat → Int} {mode : Int} {s0 : Sx} {K P Z O F : List Sx}
theorem Df.begin : Df L X mode s0 [s0] [] [] [s0] [] :=
  ⟨by simp, by simp, fun s h => by rw [List.mem_singleton.mp h]; exact .base, fun s => by simp, by simp, fun _ h => absurd h List.not_mem_nil, fun _ h => absurd h List.not_mem_nil, fun _ h => absurd h List.not_mem_nil⟩
theorem Df.len (h : Df L X mode s0 K P Z O F) : Z.length + O.length = K.length := by
  have h1 := nodup_len h.zo (r := K) (fun x hx => (h.split x).2 (List.mem_append.mp hx))
  have h2 := nodup_len h.nodup (r := Z ++ O) (fun x hx => List.mem_append.mpr ((h.split x).1 hx))
  rw [List.length_append] at h1 h2
  omega
/-- The last one that is open is begun. -/
theorem Df.pop {s : Sx} (h : Df L X mode s0 K Z Z (O ++ [s]) F) : Df L X mode s0 K Z (Z ++ [s]) O F :=
  ⟨h.nodup, h.first, h.reach, fun x => by
    rw [h.split x, List.mem_append, List.mem_append]
    constructor
    · rintro (h1 | h1 | h1)
      · exact Or.inl (Or.inl h1)
      · exact Or.inr h1
      · exact Or.inl (Or.inr h1)
    · rintro ((h1 | h1) | h1)
      · exact Or.inl h1
      · exact Or.inr (Or.inr h1)
      · exact Or.inr (Or.inl h1), by
    refine h.zo.perm ?_
    rw [List.append_assoc]
    exact List.Perm.append_left _ List.perm_append_comm, h.next, fun f hf => by
    obtain ⟨x, mv, h1, h2⟩ := h.fin f hf
    exact ⟨x, mv, List.mem_append_left _ h1, h2⟩, h.fall⟩
/-- One that was not known is come to. -/
theorem Df.come {s t : Sx} (h : Df L X mode s0 K P Z O F) (hs : s ∈ K) (ht : t ∈ nxX L X mode s) (hn : t ∉ K) : Df L X mode s0 (K ++ [t]) P Z (O ++ [t]) F :=
  ⟨by
    rw [List.nodup_append]
    refine ⟨h.nodup, by simp, fun a ha b hb e => ?_⟩
    rw [List.mem_singleton.mp hb] at e
    exact hn (e ▸ ha), List.mem_append_left _ h.first, fun x hx => by
    rcases List.mem_append.mp hx with hx | hx
    · exact h.reach x hx
    · rw [List.mem_singleton.mp hx]; exact .step (h.reach s hs) ht, fun x => by
    rw [List.mem_append, List.mem_append, h.split x, or_assoc], by
    rw [← List.append_assoc, List.nodup_append]
    refine ⟨h.zo, by simp, fun a ha b hb e => ?_⟩
    rw [List.mem_singleton.mp hb] at e
    exact hn (e ▸ (h.split a).2 (List.mem_append.mp ha)), fun x hx y hy => List.mem_append_left _ (h.next x hx y hy), h.fin, h.fall⟩
/-- One fell. -/
theorem Df.fell {s : Sx} {mv : Int} (h : Df L X mode s0 K P Z O F) (hs : s ∈ Z) (hm : mv ∈ movesX L X mode s) (hf : (doX X mode s mv.toNat).fell = true) : Df L X mode s0 K P Z O (F ++ [doX X mode s mv.toNat]) :=
  ⟨h.nodup, h.first, h.reach, h.split, h.zo, h.next, fun f hf' => by
    rcases List.mem_append.mp hf' with hf' | hf'
    · exact h.fin f hf'
    · rw [List.mem_singleton.mp hf']; exact ⟨s, mv, hs, hm, rfl, hf⟩, fun x hx mv' h1 h2 => List.mem_append_left _ (h.fall x hx mv' h1 h2)⟩
/-- What was made of the first k moves. -/
def Fwd (L : Nat → Nat) (X : Nat → Nat → Nat → Int) (mode : Int) (s : Sx) (K F : List Sx) (k : Nat) : Prop :=
  ∀ j, j < k → ((doX X mode s ((movesX L X mode s).getD j 0).toNat).fell = true → doX X mode s ((movesX L X mode s).getD j 0).toNat ∈ F) ∧ ((doX X mode s ((movesX L X mode s).getD j 0).toNat).fell = false → doX X mode s ((movesX L X mode s).getD j 0).toNat ∈ K)
theorem Fwd.next {s : Sx} {K' F' : List Sx} {k : Nat} (h : Fwd L X mode s K F k) (hK : ∀ t, t ∈ K → t ∈ K') (hF : ∀ t, t ∈ F → t ∈ F') (h1 : (doX X mode s ((movesX L X mode s).getD k 0).toNat).fell = true → doX X mode s ((movesX L X mode s).getD k 0).toNat ∈ F') (h2 : (doX X mode s ((movesX L X mode s).getD k 0).toNat).fell = false → doX X mode s ((movesX L X mode s).getD k 0).toNat ∈ K') : Fwd L X mode s K' F' (k + 1) := fun j hj => by
  rcases Nat.lt_or_ge j k with h3 | h3
  · exact ⟨fun hf => hF _ ((h j h3).1 hf), fun hf => hK _ ((h j h3).2 hf)⟩
  · obtain rfl : j = k := by omega
    exact ⟨h1, h2⟩
/-- One has been gone through. -/
theorem Df.gone {s : Sx} (h : Df L X mode s0 K Z (Z ++ [s]) O F) (hw : Fwd L X mode s K F (movesX L X mode s).length) : Df L X mode s0 K (Z ++ [s]) (Z ++ [s]) O F :=
  ⟨h.nodup, h.first, h.reach, h.split, h.zo, fun x hx t ht => by
    rcases List.mem_append.mp hx with hx | hx
    · exact h.next x hx t ht
    · rw [List.mem_singleton.mp hx] at ht
      obtain ⟨mv, h1, h2, h3⟩ := mem_nx.mp ht
      obtain ⟨j, hj, rfl⟩ := mv_getD h1
      rw [← h2] at h3 ⊢
      exact (hw j hj).2 h3, h.fin, fun x hx mv h1 h2 => by
    rcases List.mem_append.mp hx with hx | hx
    · exact h.fall x hx mv h1 h2
    · rw [List.mem_singleton.mp hx] at h1 h2 ⊢
      obtain ⟨j, hj, rfl⟩ := mv_getD h1
      exact (hw j hj).1 h2⟩
/-- Nothing is open: all that can be come to has been gone through. -/
theorem Df.whole (h : Df L X mode s0 K Z Z [] F) : ∀ s, s ∈ Z ↔ Rch (nxX L X mode) s0 s := by
  have hz : ∀ s, s ∈ K ↔ s ∈ Z := fun s => by rw [h.split s]; simp
  refine fun s => ⟨fun hs => h.reach s ((hz s).2 hs), fun hs => ?_⟩
  induction hs with
  | base => exact (hz _).1 h.first
  | step _ ht ih => exact (hz _).1 (h.next _ ih _ ht)
/-- The outcomes that are come to are those of what was begun and of what fell. -/
def outcX (L : Nat → Nat) (X : Nat → Nat → Nat → Int) (mode : Int) (Z F : List Sx) (o : Oc) : Prop :=
  (∃ s, s ∈ Z ∧ movesX L X mode s = [] ∧ o = ⟨if endedX L s then 0 else 2, s.words, s.prints⟩) ∨ ∃ f, f ∈ F ∧ o = ⟨1, [], f.prints⟩
theorem Df.outs (h : Df L X mode s0 K Z Z [] F) (o : Oc) : outcX L X mode Z F o ↔ ∃ s, Rch (nxX L X mode) s0 s ∧ o ∈ outsX L X mode s := by
  constructor
  · rintro (⟨s, hs, hm, rfl⟩ | ⟨f, hf, rfl⟩)
    · refine ⟨s, (h.whole s).1 hs, ?_⟩
      rw [outs_none hm]
      simp
    · obtain ⟨s, mv, h1, h2, h3, h4⟩ := h.fin f hf
      refine ⟨s, (h.whole s).1 h1, ?_⟩
      rw [← h3] at h4 ⊢
      exact fell_out h2 h4
  · rintro ⟨s, hs, ho⟩
    have hz := (h.whole s).2 hs
    by_cases hm : movesX L X mode s = []
    · rw [outs_none hm] at ho
      exact Or.inl ⟨s, hz, hm, List.mem_singleton.mp ho⟩
    · unfold outsX at ho
      rw [if_neg hm, List.nil_append] at ho
      obtain ⟨mv, h1, h2⟩ := List.mem_filterMap.mp ho
      cases hf : (doX X mode s mv.toNat).fell with
      | false => rw [hf] at h2; cases h2
      | true =>
        rw [hf] at h2
        rw [← Option.some.inj h2]
        exact Or.inr ⟨_, h.fall s hz mv h1 hf, rfl⟩
theorem Df.told (h : Df L X mode s0 K Z Z [] F) {l : List Oc} {mx : Nat} (hs : SortedO l) (hl : ∀ o, o ∈ l ↔ outcX L X mode Z F o) (hk : K.length ≤ mx) : Told (nxX L X mode) (outsX L X mode) s0 mx false l := by
  refine Or.inr ⟨rfl, hs, fun o => (hl o).trans (h.outs o), K, h.nodup, fun s => ⟨h.reach s, fun hr => ?_⟩, hk⟩
  rw [h.split s]
  exact Or.inl ((h.whole s).2 hr)
theorem Df.full (h : Df L X mode s0 K P Z O F) {mx : Nat} (l : List Oc) (hk : mx < K.length) : Told (nxX L X mode) (outsX L X mode) s0 mx true l := Or.inl ⟨rfl, K, h.nodup, h.reach, hk⟩
end
end

section
open Go.RowKit

/-- From W to W' nothing has turned below B, and elsewhere only what N tells. -/
structure Fr (B : Nat) (N : Nat → Obj → Prop) (W W' : World) : Prop where
  below : Below B W W'
  kept : ∀ k o, W.heap[k]? = some o → ¬ N k o → W'.heap[k]? = some o
section
variable {B : Nat} {N N' : Nat → Obj → Prop} {W W' W'' : World}
theorem Fr.trans (h : Fr B N W W') (k : Fr B N W' W'') : Fr B N W W'' := ⟨h.below.trans k.below, fun i o h1 h2 => k.kept i o (h.kept i o h1 h2) h2⟩
theorem Fr.of_below (hB : B ≤ W.heap.size) (h : Below W.heap.size W W') : Fr B N W W' := ⟨h.mono hB, fun i o h1 _ => by rw [h.block i (box_lt h1)]; exact h1⟩
theorem Fr.mono (h : Fr B N W W') (hN : ∀ k o, N k o → N' k o) : Fr B N' W W' := ⟨h.below, fun k o h1 h2 => h.kept k o h1 (fun e => h2 (hN k o e))⟩
theorem Fr.own {C : Nat} {e : TypeId} {size : Nat} {v : Value} {n : Nat} {xs : List Value} (h : W.ownsRow C e size v n xs) (hf : Fr B N W W') (hN : ∀ k c, ¬ N k (.cells c e)) : W'.ownsRow C e size v n xs := by
  refine ⟨h.1, ?_⟩
  rcases h.2 with h0 | ⟨g, cap, cur, hv, hg, hh, r⟩
  · exact Or.inl h0
  · exact Or.inr ⟨g, cap, cur, hv, hg, hf.kept g _ hh (hN g cur), r⟩
theorem Fr.qst {C : Nat} {Q : Cd} {sb mb : Nat} {v : Rp → Value} {s : Sx} (h : QSt W C Q sb mb v s) (hf : Fr B N W W') (hN : ∀ r k c, ¬ N k (.cells c (pTy Q.K r))) : QSt W' C Q sb mb v s :=
  ⟨⟨fun r => Fr.own (h.fam.own r) hf (hN r), h.fam.apart⟩, h.st, h.mem, h.box⟩
end
/-- The types of what a walk holds. -/
def wTy (t : TypeId) : Prop := t = 5 ∨ t = 145 ∨ t = 78 ∨ t = 144
/-- What a walk may turn: its own lists, and the map km. -/
def NW (km : Nat) (k : Nat) (o : Obj) : Prop := (k = km ∧ ∃ es ck, o = .map es ck) ∨ ∃ c t fz, o = .cells c t fz ∧ wTy t
theorem nw_cells {km k : Nat} {c : Array Value} {t : TypeId} (ht : ¬ wTy t) : ¬ NW km k (.cells c t) := fun h => by
  rcases h with ⟨_, es, ck, e⟩ | ⟨c', t', fz, e, h⟩
  · cases e
  · injection e with _ e2; exact ht (by rw [e2]; exact h)

/-- A walk: the program, the kind of its memory, and where its own things lie. -/
structure Wc where
  Q : Cd
  ca : Option Addr
  X : Nat → Nat → Nat → Int
  n : Nat
  m : Nat
  lk : Nat
  rg : Nat
  s0 : Sx
  B : Nat
  w0 : World
  tf : Nat
  cf : Nat
  km : Nat
  kb : Nat
  tb : Nat
  ob : Nat
abbrev Wc.mode (c : Wc) : Int := c.Q.K.mode
structure WcOk (c : Wc) : Prop where
  hM : MLaw c.Q.K
  hT : MTell c.Q.K c.tf
  hC : MClone c.Q.K c.cf
  ty : ∀ r, ¬ wTy (pTy c.Q.K r)
  nt : c.Q.nt = c.n
  n0 : 0 < c.n
  cok : COk c.n c.Q.L c.X c.m c.lk c.rg
  fits : ∀ t i, t < c.n → i < c.Q.L t → I64n (c.X t i 2)
  prog : PIn c.w0 c.ca c.n c.Q.A c.Q.L c.Q.C c.X
  tab : TabB c.B c.w0
  Bw : c.B = c.w0.heap.size
  km : c.B ≤ c.km
  kb : c.B ≤ c.kb
  tb : c.B ≤ c.tb
  ob : c.B ≤ c.ob
/-- What holds of a state that was come to as the k-th one. -/
structure StP (c : Wc) (k : Nat) (s : Sx) : Prop where
  ok : SOk c.n c.Q.L c.m c.lk c.rg c.mode s
  fell : s.fell = false
  lk : LkI s
  v : VOk s
  pr : s.prints.length ≤ 2 * k
section
variable {c : Wc} {k : Nat} {s : Sx}
theorem StP.mono (h : StP c k s) {k' : Nat} (hk : k ≤ k') : StP c k' s := ⟨h.ok, h.fell, h.lk, h.v, by have := h.pr; omega⟩
theorem StP.tok (h : StP c k s) (hc : WcOk c) (hk : k ≤ 5000) (bb : Nat) : TOk (c.Q.at bb) s where
  nt := by show c.Q.nt = _; rw [hc.nt, h.ok.ths]
  n0 := by rw [h.ok.ths]; exact hc.n0
  n4 := by rw [h.ok.ths]; exact hc.cok.n4
  pc t ht := by rw [h.ok.ths] at ht; exact Nat.le_trans (h.ok.pc t ht) (hc.cok.L4 t ht)
  rg t ht := by rw [h.ok.ths] at ht; rw [h.ok.regs t ht]; exact hc.cok.rg2
  wl t ht := by rw [h.ok.ths] at ht; exact h.ok.wlen t ht
  wk t ht x hx := by
    rw [h.ok.ths] at ht
    have h1 := (h.ok.wok t ht x hx).1
    have h2 := hc.cok.m64
    have h3 := hc.cok.lk4
    refine ⟨h1.1, ?_⟩
    have h4 := h1.2
    split at h4 <;> omega
  words := by rw [h.ok.words]; exact hc.cok.m64
  own := by rw [h.ok.own]; exact hc.cok.lk4
  pr := by have := h.pr; omega
  v := h.v
theorem StP.kok (h : StP c k s) (hc : WcOk c) (hk : k ≤ 5000) (bb : Nat) : KOk (c.Q.at bb) s where
  nt := by show c.Q.nt = _; rw [hc.nt, h.ok.ths]
  n0 := by rw [h.ok.ths]; exact hc.n0
  n4 := by rw [h.ok.ths]; exact hc.cok.n4
  rg0 t ht := by rw [h.ok.ths] at ht; rw [h.ok.regs t ht]; exact hc.cok.rg0
  rg t ht := by rw [h.ok.ths] at ht; rw [h.ok.regs t ht]; exact hc.cok.rg2
  wl t ht := by rw [h.ok.ths] at ht; exact h.ok.wlen t ht
  words := by rw [h.ok.words]; exact hc.cok.m64
  own := by rw [h.ok.own]; exact hc.cok.lk4
  pr := by have := h.pr; omega
end
/-- The text of a state. -/
def keyT (c : Wc) (s : Sx) : List UInt8 := textT (telX c.mode s)
theorem keyT_inj {c : Wc} (hc : WcOk c) {k j : Nat} {s r : Sx} (h1 : StP c k s) (h2 : StP c j r) (h : keyT c s = keyT c r) : s = r := by
  have hm : 0 ≤ c.mode := by
    cases hb : c.Q.K.bf with
    | false => rw [show c.mode = 0 from hc.hM.mode0 hb]; decide
    | true => have := hc.hM.mode1 hb; show 0 ≤ c.Q.K.mode; omega
  exact tel_inj h1.ok h2.ok hm (by rw [h1.fell, h2.fell]) (textT_inj h)
/-- What the program holds while it goes through states: K known, O open. -/
structure WkI (c : Wc) (W : World) (K O : List Sx) (os : List Nat) : Prop where
  text : ∃ bs, TxR W c.B c.tb bs
  kbox : W.heap[c.kb]? = some (.cells #[.map (some c.km)] 143)
  known : ∃ n D, n ≤ K.length ∧ W.ownsMap Tryz.prog 9 (unitElem (H := Unit)) c.km n D ∧ Maps.size D = K.length ∧ ∀ l, Maps.has D (.string l) = true ↔ ∃ s, s ∈ K ∧ keyT c s = l
  obox : ∃ v, W.heap[c.ob]? = some (.cells #[v] 144) ∧ W.ownsRow c.B 78 1 v os.length (os.map fun b => .pointer (some ⟨b, 0, none⟩))
  len : os.length = O.length
  states : ∀ i, i < O.length → ∃ mb bb C v, QSt W C (c.Q.at bb) (os.getD i 0) mb v (O.getD i default)
  ok : ∀ k, k < K.length → StP c k (K.getD k default)
  low : Below c.B c.w0 W
section
variable {c : Wc} {W W' : World} {K O : List Sx} {os : List Nat}
theorem WkI.mem (h : WkI c W K O os) {s : Sx} (hs : s ∈ K) : ∃ k, k < K.length ∧ StP c k s := by
  obtain ⟨k, hk, e⟩ := List.getElem_of_mem hs
  refine ⟨k, hk, ?_⟩
  have := h.ok k hk
  rw [List.getD_eq_getElem?_getD, List.getElem?_eq_getElem hk] at this
  rw [← e]; exact this
theorem ownsMap_kept {k : TypeId} {R : Value → Option (DataW Unit × List MemPlace)} {b n : Nat} {D : DataW Unit} (h : W.ownsMap Tryz.prog k R b n D) (hb : W'.heap[b]? = W.heap[b]?) : W'.ownsMap Tryz.prog k R b n D := by
  obtain ⟨es, clock, h1, r⟩ := h
  exact ⟨es, clock, hb.trans h1, r⟩
/-- What others turn leaves a walk's things as they were. -/
theorem WkI.kept {N : Nat → Obj → Prop} (h : WkI c W K O os) (hf : Fr c.B N W W') (h1 : ∀ k cs t, wTy t ∨ t = 143 → ¬ N k (.cells cs t)) (h2 : ∀ o, ¬ N c.km o) (h3 : ∀ r k cs, ¬ N k (.cells cs (pTy c.Q.K r))) : WkI c W' K O os := by
  refine ⟨?_, hf.kept _ _ h.kbox (h1 _ _ _ (.inr rfl)), ?_, ?_, h.len, fun i hi => ?_, h.ok, h.low.trans hf.below⟩
  · obtain ⟨bs, v, e1, e2⟩ := h.text
    exact ⟨bs, v, hf.kept _ _ e1 (h1 _ _ _ (.inl (.inr (.inl rfl)))), Fr.own e2 hf (fun k cs => h1 k cs _ (.inl (.inl rfl)))⟩
  · obtain ⟨n, D, e1, e2, e3⟩ := h.known
    refine ⟨n, D, e1, ownsMap_kept e2 ?_, e3⟩
    obtain ⟨es, clock, hb, _⟩ := e2
    rw [hb]; exact hf.kept _ _ hb (h2 _)
  · obtain ⟨v, e1, e2⟩ := h.obox
    exact ⟨v, hf.kept _ _ e1 (h1 _ _ _ (.inl (.inr (.inr (.inr rfl))))), Fr.own e2 hf (fun k cs => h1 k cs _ (.inl (.inr (.inr (.inl rfl)))))⟩
  · obtain ⟨mb, bb, C, v, hq⟩ := h.states i hi
    exact ⟨mb, bb, C, v, Fr.qst hq hf h3⟩
theorem WkI.below (hc : WcOk c) (h : WkI c W K O os) (hb : Below W.heap.size W W') : WkI c W' K O os :=
  h.kept (N := fun _ _ => False) (Fr.of_below (by rw [hc.Bw]; exact h.low.size) hb) (fun _ _ _ _ h => h) (fun _ h => h) (fun _ _ _ h => h)
end
end

end Go.Proofs.YtipdnfpomdcenabGreatDoor
