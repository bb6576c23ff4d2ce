/-
  A state is come to, by the program.
-/
import Derived.Test.YtefnmbnakphhfadGreatDoorWText
import Derived.Lib.Hide
namespace Go.Proofs.YtefnmbnakphhfadGreatDoor
open Go.RowKit

/-- What is left when a state was come to. -/
def ComeQ (c : Wc) (W : World) (K O : List Sx) (os : List Nat) (sb : Nat) (s : Sx) (e : Ending) (W' : World) : Prop := e = .returned (.tuple #[]) ∧ Fr c.B (NW c.km) W W' ∧ ((s ∈ K ∧ WkI c W' K O os) ∨ (s ∉ K ∧ WkI c W' (K ++ [s]) (O ++ [s]) (os ++ [sb])))
theorem keyLaw : Maps.Keyed Tryz.prog 9 := Maps.string_keyed Tryz.underlying9
theorem zeroU (w : World) : (zeroValue 128).run Tryz.prog w = .ok (.agg #[]) w := by kernel_rfl
theorem infoPS : (Tryz.prog.info? 85).map (fun i => (i.zero, i.size, i.bytes)) = some (some (.pointer none), 1, 8) := by kernel_rfl
/-- How many numbers a state tells. -/
theorem tel_len {Q : Cd} {s : Sx} (ho : TOk Q s) (mode : Int) : (telX mode s).length ≤ 12000 ∧ telX mode s ≠ [] := by
  have h1 : ∀ j, j ≤ s.ths.length → (telTs s j).length ≤ 201 * j := by
    intro j
    induction j with
    | zero => intro _; simp [telTs]
    | succ j ih =>
      intro hj
      rw [telTs_succ]
      have h1 := ih (by omega)
      have h2 := ho.rg j (by omega)
      simp only [List.length_append, List.length_singleton]
      omega
  have h2 : ∀ j, j ≤ s.ths.length → (telBs s j).length ≤ 7 * j := by
    intro j
    induction j with
    | zero => intro _; simp [telBs]
    | succ j ih =>
      intro hj
      rw [telBs_succ]
      have h1 := ih (by omega)
      have h2 := ho.wl j (by omega)
      have h3 : ((thOf s j).wait.flatMap telW).length = 2 * (thOf s j).wait.length := by
        generalize (thOf s j).wait = l
        induction l with
        | nil => rfl
        | cons a r ih => rw [List.flatMap_cons, List.length_append, ih]; simp [telW]; omega
      simp only [List.length_append, List.length_singleton, h3]
      omega
  have h3 := h1 _ (Nat.le_refl _)
  have h4 := h2 _ (Nat.le_refl _)
  rw [telTs_all] at h3
  rw [telBs_all] at h4
  have h5 := ho.n4
  have h6 := ho.words
  have h7 := ho.own
  have h8 := ho.pr
  refine ⟨?_, ?_⟩
  · unfold telX telM
    split <;> simp only [List.length_append, List.length_nil] <;> omega
  · unfold telX
    cases hth : s.ths with
    | nil => have := ho.n0; rw [hth] at this; cases this
    | cons x r => simp [telT]

/-- What a walk turns when a state is opened. -/
def NS (km : Nat) (k : Nat) (o : Obj) : Prop := (k = km ∧ ∃ es ck, o = .map es ck) ∨ ∃ c t fz, o = .cells c t fz ∧ (t = 85 ∨ t = 125)
theorem ns_cells {km k : Nat} {c : Array Value} {t : TypeId} (h1 : t ≠ 85) (h2 : t ≠ 125) : ¬ NS km k (.cells c t) := fun h => by
  rcases h with ⟨_, es, ck, e⟩ | ⟨c', t', fz, e, h⟩
  · cases e
  · injection e with _ e2
    rcases h with h | h
    · exact h1 (by rw [e2]; exact h)
    · exact h2 (by rw [e2]; exact h)
theorem ns_nw {km k : Nat} {o : Obj} (h : NS km k o) : NW km k o := by
  rcases h with h | ⟨c, t, fz, e, h | h⟩
  · exact .inl h
  · exact .inr ⟨c, t, fz, e, .inr (.inr (.inl h))⟩
  · exact .inr ⟨c, t, fz, e, .inr (.inr (.inr h))⟩
section
variable {B km : Nat} {W W' : World}
theorem Fr.map (hB : B ≤ km) (hz : B ≤ W.heap.size) (hm : ∃ es ck, W.heap[km]? = some (.map es ck)) (h : W.grownBy W' (some km)) : Fr B (NS km) W W' := by
  refine ⟨(Below.refl _ _).grown h hz (fun k hk => by injection hk with hk; omega), fun k o h1 h2 => ?_⟩
  rw [h.block k (box_lt h1) (fun e => h2 ?_)]
  · exact h1
  · injection e with e
    obtain ⟨es, ck, hm⟩ := hm
    exact .inl ⟨e, es, ck, by rw [e, hm] at h1; exact (Option.some.inj h1).symm⟩
theorem Fr.row {v : Value} {n : Nat} {xs : List Value} (hz : B ≤ W.heap.size) (ho : W.ownsRow B 85 1 v n xs) (h : W.grownBy W' v.ownBlock) : Fr B (NS km) W W' := by
  refine ⟨(Below.refl _ _).grown h hz (fun k hk => (ho.lt k hk).1), fun k o h1 h2 => ?_⟩
  rw [h.block k (box_lt h1) (fun e => h2 ?_)]
  · exact h1
  · rcases ho.2 with ⟨h0, _⟩ | ⟨g, cap, cur, hv, _, hh, _⟩
    · rw [h0] at e; simp [Value.ownBlock] at e
    · rw [hv] at e
      have : g = k := by simpa [Value.ownBlock] using e.symm
      rw [this, h1] at hh
      exact .inr ⟨cur, _, (0, 0), Option.some.inj hh, .inl rfl⟩
theorem Fr.cell {g : Nat} {cs : Array Value} {u : Value} (hB : B ≤ g) (h : W.heap[g]? = some (.cells cs 125)) : Fr B (NS km) W (W.setCell ⟨g, 0, none⟩ u) := by
  refine ⟨(Below.refl _ _).setCell hB _, fun k o h1 h2 => ?_⟩
  rw [Below.heap_setCell _ _ _ _ (fun e => h2 ?_)]
  · exact h1
  · have e' : k = g := e
    exact .inr ⟨cs, _, (0, 0), by rw [e', h] at h1; exact (Option.some.inj h1).symm, .inr rfl⟩
end
/-- What a walk holds behind a turn of its own things. -/
theorem WkI.turn {c : Wc} (hc : WcOk c) {W W' : World} {K O K' O' : List Sx} {os os' : List Nat} (h : WkI c W K O os) (hf : Fr c.B (NW c.km) W W') {bs : List UInt8} (ht : TxR W' c.B c.tb bs) (hk : W'.heap[c.kb]? = some (.cells #[.map (some c.km)] 124))
    {n : Nat} {D : DataW Unit} (hn : n ≤ K'.length) (hm : W'.ownsMap Tryz.prog 9 (unitElem (H := Unit)) c.km n D) (hsz : Maps.size D = K'.length) (hh : ∀ l, Maps.has D (.string l) = true ↔ ∃ s, s ∈ K' ∧ keyT c s = l)
    {v : Value} (hb : W'.heap[c.ob]? = some (.cells #[v] 125)) (ho : W'.ownsRow c.B 85 1 v os'.length (os'.map fun b => .pointer (some ⟨b, 0, none⟩))) (hlen : os'.length = O'.length)
    (hst : ∀ i, i < O'.length → ∃ mb bb C v, QSt W C (c.Q.at bb) (os'.getD i 0) mb v (O'.getD i default)) (hok : ∀ k, k < K'.length → StP c k (K'.getD k default)) : WkI c W' K' O' os' :=
  ⟨⟨bs, ht⟩, hk, ⟨n, D, hn, hm, hsz, hh⟩, ⟨v, hb, ho⟩, hlen, fun i hi => by
    obtain ⟨mb, bb, C, v, hq⟩ := hst i hi
    exact ⟨mb, bb, C, v, Fr.qst hq hf (fun r k cs => nw_cells (hc.ty r))⟩, hok, h.low.trans hf.below⟩

attribute [local go_sem ↓] appS_eq
set_option maxRecDepth 100000 in
set_option maxHeartbeats 3200000 in
theorem come_any (c : Wc) (hc : WcOk c) (W : World) (K O : List Sx) (os : List Nat) (h : WkI c W K O os) (sb mb bb C : Nat) (v : Rp → Value) (s : Sx) (hq : QSt W C (c.Q.at bb) sb mb v s) (hs : StP c K.length s) (hK : K.length ≤ 4500) (hol : O.length ≤ K.length) :
    Calls Tryz.prog 67 #[.pointer (some ⟨sb, 0, none⟩), .pointer (some ⟨c.tb, 0, none⟩), .pointer (some ⟨c.kb, 0, none⟩), .pointer (some ⟨c.ob, 0, none⟩)] W (ComeQ c W K O os sb s) := by
  obtain ⟨bs, v0, tbx, trow⟩ := h.text
  obtain ⟨a, cap, hv0⟩ := fam_form trow
  rw [hv0] at tbx trow
  have ct : W.cell? ⟨c.tb, 0, none⟩ = some (.slice a bs.length cap) := box_cell tbx rfl
  have hrow0 : W.ownsRow c.B 5 1 (.slice a 0 cap) 0 [] := by
    rcases trow.2 with ⟨h0, h1⟩ | ⟨g, cap', cur, hv, _⟩
    · simp only [Value.slice.injEq] at h0
      obtain ⟨rfl, _, rfl⟩ := h0
      exact World.ownsRow_nil _ _ _ _
    · simp only [Value.slice.injEq] at hv
      obtain ⟨rfl, _, rfl⟩ := hv
      exact fam_shrink trow (Nat.zero_le _)
  have hBW : c.B ≤ W.heap.size := by rw [hc.Bw]; exact h.low.size
  have htok := hs.tok hc (by omega) bb
  have HC1 : Hid (Calls Tryz.prog 68 #[.slice a 0 cap, .pointer (some ⟨sb, 0, none⟩)] W fun e W' => ∃ u, e = .returned u ∧ W'.ownsRow c.B 5 1 u (keyT c s).length (Lib.byteCells (keyT c s)) ∧ Below c.B W W' ∧ K8 none W W') :=
    atext_any W c.B a cap (c.Q.at bb) sb mb C v s c.tf hq (fun r => ⟨fun e => hc.ty r (.inl e), fun e => hc.ty r (.inr (.inl e))⟩) hc.hT htok hBW (hc.tab.on h.low) hrow0
  obtain ⟨htl, htn⟩ := tel_len htok c.mode
  have hlpos : 0 < (keyT c s).length := by
    unfold keyT textT
    cases hx : telX c.mode s with
    | nil => exact absurd hx htn
    | cons x r => simp; omega
  have hlmax : (keyT c s).length ≤ 500000 := by
    have h1 := textT_len (xs := telX c.mode s) (tel_fits hs.v hs.ok hc.cok.L4 hc.cok.m64 hc.cok.lk4)
    show (textT (telX c.mode s)).length ≤ _
    omega
  obtain ⟨nk, D, hnk, hmap, hsz, hhas⟩ := h.known
  obtain ⟨ov, obx, orow⟩ := h.obox
  obtain ⟨oa, oc, hov⟩ := fam_form orow
  rw [hov] at obx orow
  have hmapo : ∃ es ck, W.heap[c.km]? = some (.map es ck) := by
    obtain ⟨es, ck, hb, _⟩ := hmap
    exact ⟨es, ck, hb⟩
  have hkt : c.km ≠ c.tb := fun e => by obtain ⟨es, ck, hb⟩ := hmapo; rw [e, tbx] at hb; cases hb
  have hkk : c.kb ≠ c.tb := fun e => by have := h.kbox; rw [e, tbx] at this; injection (Option.some.inj this) with _ e2; exact absurd e2 (by decide)
  have hko : c.ob ≠ c.tb := fun e => by have := obx; rw [e, tbx] at this; injection (Option.some.inj this) with _ e2; exact absurd e2 (by decide)
  obtain ⟨l, hl⟩ : ∃ l, keyT c s = l := ⟨_, rfl⟩
  have HL : Hid (keyT c s = l) := hl
  rw [hl] at HC1 hlpos hlmax
  obtain ⟨L, hLl⟩ : ∃ L, l.length = L := ⟨_, rfl⟩
  have HLL : Hid (l.length = L) := hLl
  rw [hLl] at HC1 hlpos hlmax
  -- behind the text's store
  have H2 : Hid (∀ W1 g1 c1, W1.ownsRow c.B 5 1 (.slice (some ⟨g1, 0, none⟩) L c1) L (Lib.byteCells l) → Below c.B W W1 → K8 none W W1 →
      W1.cell? ⟨c.kb, 0, none⟩ = some (.map (some c.km)) ∧ W1.cell? ⟨c.tb, 0, none⟩ = some (.slice a bs.length cap) ∧ W1.frozen? ⟨c.tb, 0, none⟩ = false ∧
      Fr c.B (NW c.km) W (W1.setCell ⟨c.tb, 0, none⟩ (.slice (some ⟨g1, 0, none⟩) L c1)) ∧
      (W1.setCell ⟨c.tb, 0, none⟩ (.slice (some ⟨g1, 0, none⟩) L c1)).heap[c.tb]? = some (.cells #[.slice (some ⟨g1, 0, none⟩) L c1] 126) ∧
      (W1.setCell ⟨c.tb, 0, none⟩ (.slice (some ⟨g1, 0, none⟩) L c1)).ownsRow c.B 5 1 (.slice (some ⟨g1, 0, none⟩) L c1) L (Lib.byteCells l) ∧
      (W1.setCell ⟨c.tb, 0, none⟩ (.slice (some ⟨g1, 0, none⟩) L c1)).heap[c.kb]? = some (.cells #[.map (some c.km)] 124) ∧
      (W1.setCell ⟨c.tb, 0, none⟩ (.slice (some ⟨g1, 0, none⟩) L c1)).heap[c.ob]? = some (.cells #[.slice oa os.length oc] 125) ∧
      (W1.setCell ⟨c.tb, 0, none⟩ (.slice (some ⟨g1, 0, none⟩) L c1)).ownsRow c.B 85 1 (.slice oa os.length oc) os.length (os.map fun b => .pointer (some ⟨b, 0, none⟩)) ∧
      (W1.setCell ⟨c.tb, 0, none⟩ (.slice (some ⟨g1, 0, none⟩) L c1)).ownsMap Tryz.prog 9 (unitElem (H := Unit)) c.km nk D) := fun W1 g1 c1 hr hb hk => by
    have tb1 : W1.heap[c.tb]? = some (.cells #[.slice a bs.length cap] 126) := hk _ _ tbx (by simp) (fun c' fz e => by injection e with _ e2; exact absurd e2 (by decide))
    have hn8 : ∀ {t : TypeId} {cs : Array Value}, t ≠ 5 → ∀ c' fz, Obj.cells cs t ≠ .cells c' 5 fz := fun ht c' fz e => ht (by injection e)
    refine ⟨box_cell (hk _ _ h.kbox (by simp) (hn8 (by decide))) rfl, box_cell tb1 rfl, box_free tb1, ⟨hb.setCell hc.tb _, fun k o h1 h2 => ?_⟩, heap_set_same tb1, ?_, ?_, ?_, ?_, ?_⟩
    · have hne : k ≠ c.tb := fun e => h2 (.inr ⟨_, _, _, by rw [e, tbx] at h1; exact (Option.some.inj h1).symm, .inr (.inl rfl)⟩)
      rw [Below.heap_setCell _ _ _ _ hne]
      exact hk k o h1 (by simp) (fun c' fz e => h2 (.inr ⟨c', _, fz, e, .inl rfl⟩))
    · exact fam_keeps hr (fun k hk => Below.heap_setCell _ _ _ _ (fun e => own_type hr tb1 (by decide) (by rw [hk]; exact congrArg some e)))
    · rw [Below.heap_setCell _ _ _ _ hkk]
      exact hk _ _ h.kbox (by simp) (hn8 (by decide))
    · rw [Below.heap_setCell _ _ _ _ hko]
      exact hk _ _ obx (by simp) (hn8 (by decide))
    · have ho1 : W1.ownsRow c.B 85 1 (.slice oa os.length oc) os.length (os.map fun b => .pointer (some ⟨b, 0, none⟩)) := by
        refine ⟨orow.1, ?_⟩
        rcases orow.2 with h0 | ⟨g, cp, cur, hv, hg, hh, r⟩
        · exact Or.inl h0
        · exact Or.inr ⟨g, cp, cur, hv, hg, hk _ _ hh (by simp) (hn8 (by decide)), r⟩
      exact fam_keeps ho1 (fun k hk => Below.heap_setCell _ _ _ _ (fun e => own_type ho1 tb1 (by decide) (by rw [hk]; exact congrArg some e)))
    · refine ownsMap_kept hmap ?_
      rw [Below.heap_setCell _ _ _ _ hkt]
      obtain ⟨es, ck, hb'⟩ := hmapo
      rw [hb']
      exact hk _ _ hb' (by simp) (fun c' fz e => by cases e)
  have hkk2 : ¬ c.tb = c.kb := fun e => hkk e.symm
  have hko2 : ¬ c.tb = c.ob := fun e => hko e.symm
  have hos : os.length ≤ 4500 := by have := h.len; omega
  have HW := Hid.out (p := Hid _) h
  have HQ : Hid (QSt W C (c.Q.at bb) sb mb v s ∧ StP c K.length s) := ⟨hq, hs⟩
  have HCC := Hid.out (p := Hid _) hc
  have HKN : Hid (nk ≤ K.length ∧ Maps.size D = K.length ∧ ∀ l, Maps.has D (.string l) = true ↔ ∃ s, s ∈ K ∧ keyT c s = l) := ⟨hnk, hsz, hhas⟩
  obtain ⟨str, hstr⟩ : ∃ x : ByteArray, x = ⟨l.toArray⟩ := ⟨_, rfl⟩
  have HSTR : Hid (str = ⟨l.toArray⟩) := hstr
  have hkey : keyOf Tryz.prog 9 (.string str) = some (.string l) := by
    rw [hstr]
    have := Go.WideMaps.keyOf_string_mk (P := Tryz.prog) (k := 9) Tryz.underlying9 (s := ⟨l.toArray⟩) (by show l.toArray.size ≤ maxLen; rw [List.size_toArray, hLl]; unfold maxLen; omega)
    simpa using this
  obtain ⟨has, hhb⟩ : ∃ b, Maps.has D (.string l) = b := ⟨_, rfl⟩
  have HHB : Hid (Maps.has D (.string l) = has) := hhb
  obtain ⟨bl, hbl⟩ : ∃ k, bs.length = k := ⟨_, rfl⟩
  rw [hbl] at ct H2
  obtain ⟨ol, hoz⟩ : ∃ k, os.length = k := ⟨_, rfl⟩
  have HOL : Hid (os.length = ol) := hoz
  rw [hoz] at H2 hos
  have HCV : Hid (∀ W2 g1 c1, W2.ownsRow c.B 5 1 (.slice (some ⟨g1, 0, none⟩) L c1) L (Lib.byteCells l) → (convert 126 9 (.slice (some ⟨g1, 0, none⟩) L c1)).run Tryz.prog W2 = .ok (.string str) W2) := fun W2 g1 c1 hr => by
    rw [HSTR.out, ← HLL.out]
    rw [← HLL.out] at hr
    exact run_convert_bytes_back (P := Tryz.prog) W2 126 9 5 ⟨g1, 0, none⟩ c1 l Tryz.underlying126 Tryz.underlying5 Tryz.underlying9 (fun j hj => hr.cells (g := g1) rfl j _ (by simp [Lib.byteCells, hj]))
  clear h hq hs hc tbx trow hrow0 hv0 htok htl htn hmap hsz hhas hnk obx orow hov hmapo hkt hl hLl hstr hbl hoz hhb hol
  go_enter Tryz.func67, Tryz.ntmps67
  go_wp2_with fail
  refine Calls.mono HC1.out ?_
  rintro e W1 ⟨u, rfl, hr1, hb1, hk1⟩
  obtain ⟨g1, c1, rfl, _, _, _⟩ := fam_block hr1 hlpos
  obtain ⟨kc1, t1, tf1, hf2, tb2, tr2, kb2, ob2, or2, hm2⟩ := H2.out W1 g1 c1 hr1 hb1 hk1
  have hcv2 := HCV.out _ g1 c1 tr2
  have hcv3 := HCV.out _ g1 c1 (tr2.alloc (.cells #[] 128))
  have HF2 := Hid.out (p := Hid _) (And.intro hf2 (And.intro tb2 (And.intro tr2 (And.intro kb2 (And.intro ob2 or2)))))
  have HM2 := Hid.out (p := Hid _) hm2
  have lkb : c.kb < W1.heap.size := lt_of_cell kc1
  have ltb : c.tb < W1.heap.size := lt_of_cell t1
  have hB2 : c.B ≤ (W1.setCell ⟨c.tb, 0, none⟩ (.slice (some ⟨g1, 0, none⟩) L c1)).heap.size := Nat.le_trans hBW hf2.below.size
  have HF3 : Hid (Fr c.B (NW c.km) W ((W1.setCell ⟨c.tb, 0, none⟩ (.slice (some ⟨g1, 0, none⟩) L c1)).alloc (.cells #[] 128))) := hf2.trans (Fr.of_below hB2 ((Below.refl _ _).alloc (Nat.le_refl _) _))
  have HT3 : Hid (TxR ((W1.setCell ⟨c.tb, 0, none⟩ (.slice (some ⟨g1, 0, none⟩) L c1)).alloc (.cells #[] 128)) c.B c.tb l) := ⟨_, (Below.heap_alloc _ _ _ (box_lt tb2)).trans tb2, by rw [HLL.out]; exact tr2.alloc _⟩
  have HK3 : Hid (((W1.setCell ⟨c.tb, 0, none⟩ (.slice (some ⟨g1, 0, none⟩) L c1)).alloc (.cells #[] 128)).heap[c.kb]? = some (.cells #[.map (some c.km)] 124)) := (Below.heap_alloc _ _ _ (box_lt kb2)).trans kb2
  have HO3 : Hid (((W1.setCell ⟨c.tb, 0, none⟩ (.slice (some ⟨g1, 0, none⟩) L c1)).alloc (.cells #[] 128)).heap[c.ob]? = some (.cells #[.slice oa ol oc] 125) ∧ ((W1.setCell ⟨c.tb, 0, none⟩ (.slice (some ⟨g1, 0, none⟩) L c1)).alloc (.cells #[] 128)).ownsRow c.B 85 1 (.slice oa ol oc) ol (os.map fun b => .pointer (some ⟨b, 0, none⟩))) := ⟨(Below.heap_alloc _ _ _ (box_lt ob2)).trans ob2, or2.alloc _⟩
  have HM3 : Hid (((W1.setCell ⟨c.tb, 0, none⟩ (.slice (some ⟨g1, 0, none⟩) L c1)).alloc (.cells #[] 128)).ownsMap Tryz.prog 9 (unitElem (H := Unit)) c.km nk D) := hm2.alloc _
  clear HC1 hr1 hb1 hk1 H2 hf2 tb2 tr2 kb2 ob2 or2 ct hm2 hB2
  cases has with
  | true =>
    have hhb := HHB.out
    have HR : Hid (ComeQ c W K O os sb s (.returned (.tuple #[])) ((W1.setCell ⟨c.tb, 0, none⟩ (.slice (some ⟨g1, 0, none⟩) L c1)).alloc (.cells #[] 128))) := by
      refine ⟨rfl, HF3.out, .inl ⟨?_, WkI.turn HCC.out HW.out HF3.out HT3.out HK3.out HKN.out.1 HM3.out HKN.out.2.1 HKN.out.2.2 HO3.out.1 (by rw [HOL.out]; exact HO3.out.2) HW.out.len HW.out.states HW.out.ok⟩⟩
      obtain ⟨s', h1, h2⟩ := (HKN.out.2.2 l).1 hhb
      obtain ⟨k, _, h3⟩ := HW.out.mem h1
      rw [← keyT_inj HCC.out h3 HQ.out.2 (h2.trans HL.out.symm)]
      exact h1
    clear HF2 HF3 HT3 HK3 HO3 HM3 HCV hcv3 HHB
    go_wp2_with (at_lookup; refine wpList_lookup_own_unit _ rfl _ _ 124 rfl 9 128 keyLaw Tryz.underlying124 (zeroU _) c.km nk D rfl HM2.out _ _ rfl hkey ?_)
    go_end0
    exact HR.out
  | false =>
    have hhb := HHB.out
    go_wp2_with (first | (at_lookup; refine wpList_lookup_own_unit _ rfl _ _ 124 rfl 9 128 keyLaw Tryz.underlying124 (zeroU _) c.km nk D rfl HM2.out _ _ rfl hkey ?_) | (at_mapUpdate; refine wpList_mapUpdate_own _ rfl _ _ _ 124 rfl 9 128 keyLaw Tryz.underlying124 _ c.km nk D rfl HM3.out (by have := HKN.out.1; unfold maxLen; omega) _ _ _ rfl rfl hkey _ [] unitElem_mk ?_; intro w4 hm4 hg4; refine Hid.out ?_))
    refine Lib.hid ?_
    obtain ⟨V3, hV3⟩ : ∃ V, V = (W1.setCell ⟨c.tb, 0, none⟩ (.slice (some ⟨g1, 0, none⟩) L c1)).alloc (.cells #[] 128) := ⟨_, rfl⟩
    rw [← hV3] at HF3 HT3 HK3 HO3 HM3 hg4
    have hB3 : c.B ≤ V3.heap.size := Nat.le_trans hBW HF3.out.below.size
    have hmo : ∃ es ck, V3.heap[c.km]? = some (.map es ck) := by
      obtain ⟨es, ck, hb, _⟩ := HM3.out
      exact ⟨es, ck, hb⟩
    have f4 : Fr c.B (NS c.km) V3 w4 := Fr.map HCC.out.km hB3 hmo hg4
    have hob4 : w4.heap[c.ob]? = some (.cells #[.slice oa ol oc] 125) := by
      rw [hg4.block _ (box_lt HO3.out.1) (fun e => ?_)]
      · exact HO3.out.1
      · injection e with e
        obtain ⟨es, ck, hm⟩ := hmo
        have := HO3.out.1
        rw [e, hm] at this
        cases this
    have hor4 : w4.ownsRow c.B 85 1 (.slice oa ol oc) ol (os.map fun b => .pointer (some ⟨b, 0, none⟩)) := fam_keeps HO3.out.2 (fun k hk => hg4.block k (HO3.out.2.lt k hk).2 (fun e => by
      injection e with e
      obtain ⟨es, ck, hm⟩ := hmo
      rcases HO3.out.2.2 with ⟨h0, _⟩ | ⟨g, cp, cur, hv, _, hh, _⟩
      · rw [h0] at hk; simp [Value.ownBlock] at hk
      · rw [hv] at hk
        have e2 : g = k := by simpa [Value.ownBlock] using hk
        rw [e2, e, hm] at hh
        cases hh))
    have hB4 : c.B ≤ w4.heap.size := Nat.le_trans hB3 f4.below.size
    obtain ⟨g5, cap5, w5, hrun5, ho5, hg5, hat5⟩ := app_row (T := 125) Tryz.underlying125 infoPS rfl (by omega) hor4 (Below.refl _ w4) hB4 1 #[.pointer (some ⟨sb, 0, none⟩)] rfl (by simp [Value.oneCell']) (by omega) (by omega) (by omega)
    have hb5 : Below w4.heap.size w4 (w4.alloc (.cells #[.pointer (some ⟨sb, 0, none⟩)] 85)) := (Below.refl _ _).alloc (Nat.le_refl _) _
    have f5 : Fr c.B (NS c.km) w4 w5 := (Fr.of_below hB4 hb5).trans (Fr.row (Nat.le_trans hB4 hb5.size) (hor4.alloc _) hg5)
    have hob5 : w5.heap[c.ob]? = some (.cells #[.slice oa ol oc] 125) := by
      have h1 : (w4.alloc (.cells #[.pointer (some ⟨sb, 0, none⟩)] 85)).heap[c.ob]? = some (.cells #[.slice oa ol oc] 125) := (hb5.block _ (box_lt hob4)).trans hob4
      exact (hg5.block _ (box_lt h1) (fun e => own_type (hor4.alloc _) h1 (by decide) e.symm)).trans h1
    have f6 := Fr.cell (km := c.km) (u := .slice (some ⟨g5, 0, none⟩) (ol + 1) cap5) HCC.out.ob hob5
    have HFS : Hid (Fr c.B (NS c.km) V3 (w5.setCell ⟨c.ob, 0, none⟩ (.slice (some ⟨g5, 0, none⟩) (ol + 1) cap5))) := (f4.trans f5).trans f6
    have oc4 : w4.cell? ⟨c.ob, 0, none⟩ = some (.slice oa ol oc) := box_cell hob4 rfl
    have oc5 : w5.cell? ⟨c.ob, 0, none⟩ = some (.slice oa ol oc) := box_cell hob5 rfl
    have of5 : w5.frozen? ⟨c.ob, 0, none⟩ = false := box_free hob5
    have oc4u := cell_up oc4
    have HR : Hid (ComeQ c W K O os sb s (.returned (.tuple #[])) (w5.setCell ⟨c.ob, 0, none⟩ (.slice (some ⟨g5, 0, none⟩) (ol + 1) cap5))) := by
      have hF : Fr c.B (NW c.km) W (w5.setCell ⟨c.ob, 0, none⟩ (.slice (some ⟨g5, 0, none⟩) (ol + 1) cap5)) := HF3.out.trans (HFS.out.mono (fun _ _ => ns_nw))
      have hnew : s ∉ K := fun hin => by
        have := (HKN.out.2.2 l).2 ⟨s, hin, HL.out⟩
        rw [HHB.out] at this
        cases this
      refine ⟨rfl, hF, .inr ⟨hnew, ?_⟩⟩
      obtain ⟨tv, tbx3, trow3⟩ := HT3.out.ex
      have hm6 : (w5.setCell ⟨c.ob, 0, none⟩ (.slice (some ⟨g5, 0, none⟩) (ol + 1) cap5)).ownsMap Tryz.prog 9 (unitElem (H := Unit)) c.km (nk + 1) (D.put (.string l) (.agg [])) := by
        refine ownsMap_kept hm4 ?_
        obtain ⟨es, ck, hb, _⟩ := hm4
        have h1 : c.km ≠ c.ob := fun e => by rw [e, hob4] at hb; cases hb
        rw [Below.heap_setCell _ _ _ _ h1]
        have h2 : (w4.alloc (.cells #[.pointer (some ⟨sb, 0, none⟩)] 85)).heap[c.km]? = some (.map es ck) := (hb5.block _ (box_lt hb)).trans hb
        rw [hg5.block _ (box_lt h2) (fun e => ?_), h2, hb]
        rcases (hor4.alloc (.cells #[.pointer (some ⟨sb, 0, none⟩)] 85)).2 with ⟨h0, _⟩ | ⟨g, cp, cur, hv, _, hh, _⟩
        · rw [h0] at e; simp [Value.ownBlock] at e
        · rw [hv] at e
          have e2 : g = c.km := by simpa [Value.ownBlock] using e.symm
          rw [e2, h2] at hh
          cases hh
      refine WkI.turn HCC.out HW.out hF (bs := l) ⟨tv, HFS.out.kept _ _ tbx3 (ns_cells (by decide) (by decide)), Fr.own trow3 HFS.out (fun k cs => ns_cells (by decide) (by decide))⟩ (HFS.out.kept _ _ HK3.out (ns_cells (by decide) (by decide))) (n := nk + 1) ?_ hm6 ?_ (fun l' => ?_) (heap_set_same hob5) ?_ ?_ (fun i hi => ?_) (fun k hk => ?_)
      · rw [List.length_append]; have := HKN.out.1; simp only [List.length_singleton]; omega
      · rw [Maps.size_put (HM3.out.tidy keyLaw), HHB.out, HKN.out.2.1, List.length_append]
        rfl
      · have hkl : WideAt.IsKeyLit (.string l) := keyLaw.key hkey
        by_cases e : l' = l
        · subst e
          rw [Maps.has_put_same HM3.out.isMap hkl]
          exact ⟨fun _ => ⟨s, List.mem_append_right _ (by simp), HL.out⟩, fun _ => rfl⟩
        · rw [Maps.has_put_other (by intro e'; injection e' with e'; exact e e'), HKN.out.2.2 l']
          constructor
          · rintro ⟨s', h1, h2⟩
            exact ⟨s', List.mem_append_left _ h1, h2⟩
          · rintro ⟨s', h1, h2⟩
            rcases List.mem_append.mp h1 with h1 | h1
            · exact ⟨s', h1, h2⟩
            · rw [List.mem_singleton.mp h1, HL.out] at h2
              exact absurd h2.symm e
      · rw [List.length_append, List.length_singleton, HOL.out, List.map_append]
        exact fam_keeps ho5 (fun k hk => Below.heap_setCell _ _ _ _ (fun e => own_type ho5 hob5 (by decide) (by rw [hk]; exact congrArg some e)))
      · rw [List.length_append, List.length_append, HW.out.len]; rfl
      · rw [List.length_append, List.length_singleton] at hi
        rcases Nat.lt_or_ge i O.length with h1 | h1
        · obtain ⟨mb', bb', C', v', hq'⟩ := HW.out.states i h1
          refine ⟨mb', bb', C', v', ?_⟩
          rw [show (os ++ [sb]).getD i 0 = os.getD i 0 by simp [List.getD, List.getElem?_append_left (show i < os.length by rw [HW.out.len]; exact h1)], show (O ++ [s]).getD i default = O.getD i default by simp [List.getD, List.getElem?_append_left h1]]
          exact hq'
        · obtain rfl : i = O.length := by omega
          refine ⟨mb, bb, C, v, ?_⟩
          rw [show (os ++ [sb]).getD O.length 0 = sb by rw [← HW.out.len]; simp [List.getD], show (O ++ [s]).getD O.length default = s by simp [List.getD]]
          exact HQ.out.1
      · rw [List.length_append, List.length_singleton] at hk
        rcases Nat.lt_or_ge k K.length with h1 | h1
        · rw [show (K ++ [s]).getD k default = K.getD k default by simp [List.getD, List.getElem?_append_left h1]]
          exact HW.out.ok k h1
        · obtain rfl : k = K.length := by omega
          rw [show (K ++ [s]).getD K.length default = s by simp [List.getD]]
          exact HQ.out.2
    clear HF2 HF3 HT3 HK3 HO3 HM3 HCV hcv3 HHB hhb f4 f5 f6 HFS hob4 hob5 hor4 ho5 hg5 hat5 hb5 hg4 hm4 hmo hV3
    go_wp2
    all_goals go_end0
    all_goals exact HR.out

end Go.Proofs.YtefnmbnakphhfadGreatDoor
