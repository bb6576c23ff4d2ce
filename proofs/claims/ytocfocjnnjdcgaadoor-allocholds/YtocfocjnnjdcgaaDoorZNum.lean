/-
  The numbers that a state of the document is.
-/
import Derived.Test.YtocfocjnnjdcgaaDoorSpaceP
import Derived.Test.YtocfocjnnjdcgaaDoorDSt2
import Derived.Test.YtocfocjnnjdcgaaDoorRDoP
import Derived.Test.YtocfocjnnjdcgaaDoorBox
import Derived.BigRegion
namespace Go.Proofs.YtocfocjnnjdcgaaDoor
open Go.RowKit

/-- 'append(l, src...)': numbers behind a list of one's own. -/
theorem app_all {W : World} {B : Nat} {a : Option Addr} {len c : Nat} {xs ys : List Int} {sa : Option Addr} {sc : Nat} (h : IsI W B a len c xs) (hB : B ≤ W.heap.size) (hs : LI W sa ys) (hl : len + ys.length ≤ 1000000) :
    ∃ a' cap w3, (AppS #[23, 23] 23 #[.slice a len c, .slice sa ys.length sc]).run Tryd.prog W = .ok (.slice a' (len + ys.length) cap) w3 ∧ IsI w3 B a' (len + ys.length) cap (xs ++ ys) ∧ W.grownBy w3 (Value.slice a len c).ownBlock := by
  obtain ⟨i, hi, hz0, hz1, hz2⟩ := info_is infoI
  cases ys with
  | nil =>
    refine ⟨a, c, W, ?_, by simpa using h, ⟨rfl, rfl, rfl, Nat.le_refl _, fun _ _ _ => rfl⟩⟩
    have hsr : Src Tryd.prog i.size 23 (.slice sa 0 sc) 0 [] W := by
      cases sa with
      | none => exact Src.ofNil _ Tryd.underlying23 sc
      | some a => exact Src.ofSlice _ Tryd.underlying23 a 0 sc [] (by simp) (fun j u h => by simp at h) (fun u h => by cases h)
    rcases h.own.2 with ⟨h0, h1⟩ | ⟨g, cap, cur, hv, hg, hh, h2, h3, h4, h5⟩
    · simp only [Value.slice.injEq] at h0
      obtain ⟨rfl, rfl, rfl⟩ := h0
      rcases hsr.kind with ⟨e', hk⟩ | hk <;> simp [AppS, Builtin.append_, run_underlying Tryd.underlying23, sizeOf, typeInfo, hi, hsr.len, hsr.cells]
    · simp only [Value.slice.injEq] at hv
      obtain ⟨rfl, _, rfl⟩ := hv
      exact run_append_room_src (P := Tryd.prog) W 23 23 23 3 i Tryd.underlying23 hi g 0 len c (.slice sa 0 sc) 0 [] hsr h2 (fun j h => by simp at h) (fun j h => by simp at h)
  | cons y r =>
    obtain ⟨b, o, rfl, _⟩ := hs 0 (by simp)
    have hnews : ∀ j u, (intsV (y :: r))[j]? = some u → W.cell? ((⟨b, o, none⟩ : Addr).add j) = some u := fun j u hu => by
      have hj : j < (y :: r).length := by
        rcases Nat.lt_or_ge j (y :: r).length with h | h
        · exact h
        · rw [List.getElem?_eq_none (by rw [intsV_len]; exact h)] at hu; cases hu
      obtain ⟨b', o', e, h1⟩ := hs j hj
      simp only [Option.some.injEq, Addr.mk.injEq, and_true] at e
      obtain ⟨rfl, rfl⟩ := e
      have hadd : (⟨b, o, none⟩ : Addr).add j = ⟨b, o + j, none⟩ := by unfold Addr.add; split <;> simp_all
      rw [intsV_at hj] at hu
      rw [hadd, h1]
      exact hu
    obtain ⟨g, cap, w3, r1, r2, r3, _, _⟩ := run_append_lies (P := Tryd.prog) W 23 23 B 3 i _ 1 8 Tryd.underlying23 hi hz0 hz1 hz2 rfl (by omega) _ len (intsV xs) h.own ⟨b, o, none⟩ (y :: r).length sc (intsV (y :: r)) (by rw [intsV_len]; omega) hnews (intsV_one _) (by simp) (by unfold maxLen; omega) (by omega) hB W.heap.size rfl
    exact ⟨_, cap, w3, r1, ⟨by simp [h.is], by rw [show intsV (xs ++ y :: r) = intsV xs ++ intsV (y :: r) by simp [intsV]]; exact r2⟩, r3⟩

/-- 'append(l, x, y, ..)': some numbers behind a list of one's own. -/
theorem IsI.pushs {w W : World} {B : Nat} {a : Option Addr} {len c : Nat} {xs : List Int} (h : IsI w B a len c xs) (hb : Below w.heap.size w W) (hB : B ≤ w.heap.size) (ys : List Int) (hy : 0 < ys.length) (hlen : len + ys.length ≤ 1000000) :
    ∃ g cap w3, (AppS #[23, 23] 23 #[.slice a len c, .slice (some ⟨W.heap.size, 0, none⟩) ys.length ys.length]).run Tryd.prog (W.alloc (.cells (intsV ys).toArray 3)) = .ok (.slice (some ⟨g, 0, none⟩) (len + ys.length) cap) w3 ∧ IsI w3 B (some ⟨g, 0, none⟩) (len + ys.length) cap (xs ++ ys) ∧ Below w.heap.size w (W.alloc (.cells (intsV ys).toArray 3)) ∧ (W.alloc (.cells (intsV ys).toArray 3)).grownBy w3 (Value.slice a len c).ownBlock := by
  obtain ⟨g, cap, w3, r1, r2, r3, _⟩ := app_row (T := 23) Tryd.underlying23 infoI rfl (by omega) h.own hb hB ys.length (intsV ys).toArray (by simp [intsV_len]) (by simpa using intsV_one ys) hy hlen (by omega)
  exact ⟨g, cap, w3, r1, ⟨by simp [h.is], by rw [show intsV (xs ++ ys) = intsV xs ++ (intsV ys).toArray.toList by simp [intsV]]; exact r2⟩, hb.alloc hb.size _, r3⟩
theorem IsI.grew {w0 W w3 : World} {B : Nat} {a : Option Addr} {len c : Nat} {xs : List Int} (h : IsI W B a len c xs) (h0 : Below B w0 W) (hB : B ≤ W.heap.size) (hg : W.grownBy w3 (Value.slice a len c).ownBlock) : Below B w0 w3 := h0.grown hg hB (fun k hk => (h.own.lt k hk).1)

section
variable (s : Sx)
def numA (j : Nat) : List Int := (List.range j).flatMap fun t => numT (thOf s t)
def numK (j q : Nat) : List Int := numA s j ++ [((thOf s j).pc : Int), ((thOf s j).wait.length : Int)] ++ (thOf s j).regs ++ ((thOf s j).wait.take q).flatMap numW
theorem numA_succ (j : Nat) : numA s (j + 1) = numK s j (thOf s j).wait.length := by
  unfold numA numK numA
  rw [List.range_succ, List.flatMap_append, List.take_of_length_le (Nat.le_refl _)]
  simp [numT]
theorem numK_succ {j q : Nat} (hq : q < (thOf s j).wait.length) : numK s j (q + 1) = numK s j q ++ numW ((thOf s j).wait.getD q default) := by
  unfold numK
  rw [List.take_add_one, List.flatMap_append, List.getD_eq_getElem?_getD, List.getElem?_eq_getElem hq]
  simp
theorem ths_range : s.ths = (List.range s.ths.length).map (thOf s) := by
  refine List.ext_getElem? fun i => ?_
  rw [List.getElem?_map]
  rcases Nat.lt_or_ge i s.ths.length with h | h
  · rw [List.getElem?_range h, List.getElem?_eq_getElem h]
    simp [thOf, List.getD, List.getElem?_eq_getElem h]
  · rw [List.getElem?_eq_none h, List.getElem?_eq_none (by simpa using h)]; rfl
theorem numA_all : numA s s.ths.length = s.ths.flatMap numT := by
  unfold numA
  conv => rhs; rw [ths_range s]
  rw [List.flatMap_map]
theorem numK_len {j q rg : Nat} (hr : (thOf s j).regs.length = rg) (hq : q ≤ 3) : (numK s j q).length ≤ (numA s j).length + 11 + rg := by
  unfold numK
  have h1 : (((thOf s j).wait.take q).flatMap numW).length = ((thOf s j).wait.take q).length * 3 := by
    induction (thOf s j).wait.take q with
    | nil => rfl
    | cons x r ih => rw [List.flatMap_cons, List.length_append, ih, List.length_cons]; show 3 + _ = _; omega
  have h2 : ((thOf s j).wait.take q).length ≤ q := by rw [List.length_take]; omega
  simp only [List.length_append, h1, hr, List.length_cons, List.length_nil]
  omega
theorem numA_len {rg : Nat} (hr : ∀ t, t < s.ths.length → (thOf s t).regs.length = rg) (hw : ∀ t, t < s.ths.length → (thOf s t).wait.length ≤ 3) : ∀ j, j ≤ s.ths.length → (numA s j).length ≤ (11 + rg) * j
  | 0, _ => by simp [numA]
  | j + 1, hj => by
    rw [numA_succ]
    have h1 := numK_len s (hr j (by omega)) (hw j (by omega))
    have h2 := numA_len hr hw j (by omega)
    rw [Nat.mul_succ]
    omega
end

attribute [local go_sem ↓] appS_eq
set_option maxRecDepth 100000 in
set_option maxHeartbeats 3200000 in
theorem nums_any (w : World) (B sb : Nat) (P : Pg) (v : Rl → Value) (s : Sx) (L : Nat → Nat) (m lk rg : Nat) (hn0 : 0 < P.n) (hs : DSt w B P sb v s) (ho : SOk P.n L m lk rg P.mode s) (hN : P.n ≤ 4) (hm64 : m ≤ 64) (hlk4 : lk ≤ 4) (hrg : rg ≤ 200) (hpl : s.prints.length ≤ 100000) :
    Calls Tryd.prog 91 #[.pointer (some ⟨sb, 0, none⟩)] w fun e w' => ∃ a len c, e = .returned (.slice a len c) ∧ IsI w' w.heap.size a len c (numsX s) ∧ Below w.heap.size w w' := by
  have hl := ho.ths
  obtain ⟨tb, tc, hth, htb, _⟩ := hs.thrB (by omega)
  have c5 := hs.c5
  rw [hth, hl] at c5
  have HL : Hid (s.ths.length = P.n) := hl
  have HLEN : Hid (∀ j, j ≤ P.n → (numA s j).length ≤ (11 + rg) * j) := fun j hj => numA_len s (fun t ht => ho.regs t (by omega)) (fun t ht => ho.wlen t (by omega)) j (by omega)
  have HT : Hid (∀ t, t < P.n → ∃ ra rc qa qc, w.cell? ⟨tb, t * 3, none⟩ = some (.int .i64 (thOf s t).pc) ∧ w.cell? ⟨tb, t * 3 + 1, none⟩ = some (.slice ra (thOf s t).regs.length rc) ∧ w.cell? ⟨tb, t * 3 + 2, none⟩ = some (.slice qa (thOf s t).wait.length qc) ∧ (thOf s t).regs.length = rg ∧ (thOf s t).wait.length ≤ 3 ∧ LI w ra (thOf s t).regs ∧ WIn w qa (thOf s t).wait) := fun t ht => by
    obtain ⟨ra, rc, hr⟩ := hs.regsV t
    obtain ⟨qa, qc, hq⟩ := hs.waitV t
    refine ⟨ra, rc, qa, qc, hs.pc htb (by omega), by rw [← hr]; exact hs.regs htb (by omega), by rw [← hq]; exact hs.wait htb (by omega), ho.regs t ht, ho.wlen t ht, ?_, hs.win hq⟩
    exact IsI.iin (B := B) (c := rc) ⟨rfl, by have := hs.fam.own (.regs t); rw [hr] at this; exact this⟩
  obtain ⟨wa, wc, hwv⟩ := hs.wordsV
  obtain ⟨oa, oc, hov⟩ := hs.ownV
  obtain ⟨pa, pc, hpv⟩ := hs.printsV
  have hW : LI w wa s.words := IsI.iin (B := B) (c := wc) ⟨rfl, by have := hs.fam.own .words; rw [hwv] at this; exact this⟩
  have hO : LI w oa s.own := IsI.iin (B := B) (c := oc) ⟨rfl, by have := hs.fam.own .own; rw [hov] at this; exact this⟩
  have hR : LI w pa s.prints := IsI.iin (B := B) (c := pc) ⟨rfl, by have := hs.fam.own .prints; rw [hpv] at this; exact this⟩
  have c6 := hs.c6
  have c7 := hs.c7
  have c8 := hs.c8
  rw [hwv] at c6
  rw [hov] at c7
  rw [hpv] at c8
  have HW : Hid (LI w wa s.words ∧ LI w oa s.own ∧ LI w pa s.prints ∧ s.words.length = m ∧ s.own.length = lk) := ⟨hW, hO, hR, ho.words, ho.own⟩
  obtain ⟨n, hn⟩ : ∃ n, P.n = n := ⟨_, rfl⟩
  rw [hn] at HT c5 hN HL HLEN
  clear hn hs ho hl hth htb hn0 hW hO hR hwv hov hpv
  go_enter Tryd.func91, Tryd.ntmps91
  go_wp2_with fail
  go_loopw [3, 4] (fun l i wr => ∃ (j : Nat) (a : Option Addr) (len c : Nat), j ≤ n ∧ i = .int .i64 j ∧ l = .slice a len c ∧ Hid (IsI wr w.heap.size a len c (numA s j)) ∧ Below w.heap.size w wr) (fun _ i _ => n - (intOf i).toNat)
  case atStart => exact ⟨0, none, 0, 0, Nat.zero_le _, rfl, rfl, IsI.nil _ _, Below.refl _ _⟩
  case round =>
    obtain ⟨j, a, len, c, hj, rfl, rfl, HI, hbr⟩ := hrel
    have c5r := (hbr.cell (lt_of_cell c5)).trans c5
    by_cases hlt : j < n
    · obtain ⟨ra, rc, qa, qc, k0, k1, k2, hrl, hwl, hLR, hWI⟩ := HT.out j hlt
      have k0r := (hbr.cell (lt_of_cell k0)).trans k0
      have k1r := (hbr.cell (lt_of_cell k1)).trans k1
      have k2r := (hbr.cell (lt_of_cell k2)).trans k2
      obtain ⟨k, hk⟩ : ∃ m, (thOf s j).wait.length = m := ⟨_, rfl⟩
      obtain ⟨pcj, hpc⟩ : ∃ m : Nat, (thOf s j).pc = m := ⟨_, rfl⟩
      rw [hk] at k2r hwl
      rw [hpc] at k0r
      rw [hrl] at k1r
      obtain ⟨TC, hTC⟩ : ∃ o : Obj, o = .cells #[.int .i64 (pcj : Int), .slice ra rg rc, .slice qa k qc] 159 := ⟨_, rfl⟩
      have hlj : (numA s j).length ≤ (11 + rg) * j := HLEN.out j (by omega)
      have hlen : len ≤ 1000 := by
        have h1 := HI.out.is
        have h2 : (11 + rg) * j ≤ 211 * 4 := Nat.mul_le_mul (by omega) (by omega)
        omega
      have hBw : w.heap.size ≤ wr.heap.size := hbr.size
      have hb1 : Below wr.heap.size wr (wr.alloc TC) := (Below.refl _ _).alloc (Nat.le_refl _) _
      obtain ⟨g1, cap1, w3, hrun1, hI1, hb2, hg1⟩ := HI.out.pushs hb1 hBw [(pcj : Int), (k : Int)] (by simp) (by simp; omega)
      have hI0 := HI.out.below hb2
      have hT2 : ((wr.alloc TC).alloc (.cells (intsV [(pcj : Int), (k : Int)]).toArray 3)).heap[wr.heap.size]? = some TC := box_later (heap_alloc_new _ _) _
      have hB2 : Below w.heap.size w ((wr.alloc TC).alloc (.cells (intsV [(pcj : Int), (k : Int)]).toArray 3)) := hbr.trans (hb2.mono hbr.size)
      have hB3 := hI0.grew hB2 hB2.size hg1
      have HAP : Hid (∀ W a' len' c' xs', IsI W w.heap.size a' len' c' xs' → W.heap[wr.heap.size]? = some TC → (Value.slice a' len' c').ownBlock ≠ some wr.heap.size) := fun W a' len' c' xs' h1 h2 => own_type (t := 159) h1.own (h2.trans (congrArg some hTC)) (by decide)
      have hT3 : w3.heap[wr.heap.size]? = some TC := (hg1.block _ (by simp; omega) (fun e => HAP.out _ _ _ _ _ hI0 hT2 e.symm)).trans hT2
      have hz3 : wr.heap.size < w3.heap.size := box_lt hT3
      obtain ⟨a2, cap2, w4, hrun2, hI2, hg2⟩ := app_all (sc := rc) hI1 hB3.size (IIn.below hLR hB3) (by simp; omega)
      have hB4 := hI1.grew hB3 hB3.size hg2
      have hT4 : w4.heap[wr.heap.size]? = some TC := (hg2.block _ hz3 (fun e => HAP.out _ _ _ _ _ hI1 hT3 e.symm)).trans hT3
      have t0 := (hT3.trans (congrArg some hTC))
      have t1 : w3.cell? ⟨wr.heap.size, 1, none⟩ = some (.slice ra rg rc) := box_cell t0 rfl
      rw [hrl] at hrun2 hI2
      have HS : Hid (IsI w4 w.heap.size a2 (len + 2 + rg) cap2 (numK s j 0) ∧ Below w.heap.size w w4 ∧ w4.heap[wr.heap.size]? = some TC) := ⟨by
        have e : numK s j 0 = numA s j ++ [(pcj : Int), (k : Int)] ++ (thOf s j).regs := by simp [numK, hk, hpc]
        rw [e]; exact hI2, hB4, hT4⟩
      have HK : Hid ((thOf s j).wait.length = k ∧ WIn w qa (thOf s j).wait ∧ (numA s j).length ≤ 844 ∧ (thOf s j).regs.length = rg) := ⟨hk, hWI, by
        have h2 : (11 + rg) * j ≤ 211 * 4 := Nat.mul_le_mul (by omega) (by omega)
        omega, hrl⟩
      have hrun1' : (AppS #[23, 23] 23 #[.slice a len c, .slice (some ⟨wr.heap.size + 1, 0, none⟩) 2 2]).run Tryd.prog ((wr.alloc (.cells #[.int .i64 (pcj : Int), .slice ra rg rc, .slice qa k qc] 159)).alloc (.cells #[.int .i64 (pcj : Int), .int .i64 (k : Int)] 3)) = .ok (.slice (some ⟨g1, 0, none⟩) (len + 2) cap1) w3 := by
        rw [hTC] at hrun1
        simpa [intsV] using hrun1
      simp only [List.length_cons, List.length_nil, Nat.zero_add, Nat.reduceAdd] at hrun2
      have HTC := Hid.out (p := Hid _) hTC
      clear hI0 hI1 hI2 hB2 hB3 hB4 hT2 hT3 hT4 hg1 hg2 hb1 hb2 hrun1 t0 hWI hLR hk hpc hrl hTC HI hlj hlen k0 k1 k2 HT
      go_wp2_with fail
      go_loopw [3, 6] (fun l i wr2 => ∃ (q : Nat) (a : Option Addr) (len c : Nat), q ≤ k ∧ i = .int .i64 q ∧ l = .slice a len c ∧ Hid (IsI wr2 w.heap.size a len c (numK s j q) ∧ Below w.heap.size w wr2 ∧ wr2.heap[wr.heap.size]? = some TC)) (fun _ i _ => k - (intOf i).toNat)
      case atStart => exact ⟨0, _, _, _, Nat.zero_le _, rfl, rfl, HS⟩
      case round =>
        obtain ⟨q, a5, len5, c5', hq, rfl, rfl, HI5⟩ := hrel
        have u2 := box_cell (i := 2) (HI5.out.2.2.trans (congrArg some HTC.out)) rfl
        by_cases hqk : q < k
        · obtain ⟨qb, qo, rfl, x0, x1, x2⟩ := (HK.out.2.1.below HI5.out.2.1) q (by rw [HK.out.1]; exact hqk)
          have hlen5 : len5 ≤ 2000 := by
            have h1 := HI5.out.1.is
            have h2 := numK_len s HK.out.2.2.2 (q := q) (by omega)
            have h3 := HK.out.2.2.1
            omega
          have HN : Hid (numK s j (q + 1) = numK s j q ++ numW ((thOf s j).wait.getD q default)) := numK_succ s (by rw [HK.out.1]; exact hqk)
          obtain ⟨y, hy⟩ : ∃ y, (thOf s j).wait.getD q default = y := ⟨_, rfl⟩
          rw [hy] at x0 x1 x2 HN
          clear hy
          obtain ⟨yl, yw, yv⟩ := y
          simp only at x0 x1 x2
          have hB5 := HI5.out.2.1
          have hBs := hB5.size
          obtain ⟨g6, cap6, w6, hrun6, hI6, hb6, hg6⟩ := HI5.out.1.pushs (Below.refl _ _).drew hBs [bitI yl, yw, yv] (by simp) (by simp; omega)
          have hI7 := HI5.out.1.below hb6
          have hB6 := hI7.grew (hB5.trans (hb6.mono hBs)) (by have := hb6.size; omega) hg6
          have hT6 := (hb6.block _ (box_lt HI5.out.2.2)).trans HI5.out.2.2
          have hT7 := (hg6.block _ (box_lt hT6) (fun e => HAP.out _ _ _ _ _ hI7 hT6 e.symm)).trans hT6
          have HS6 : Hid (IsI w6 w.heap.size (some ⟨g6, 0, none⟩) (len5 + 3) cap6 (numK s j (q + 1)) ∧ Below w.heap.size w w6 ∧ w6.heap[(_ : Nat)]? = some TC) := ⟨by rw [HN.out]; exact hI6, hB6, hT7⟩
          clear hI6 hI7 hB6 hT6 hT7 hb6 hg6 HN hB5
          have v2 := cell_up u2
          have v3 := cell_up x1
          have v4 := cell_up x2
          cases yl with
          | false =>
            simp only [bitI, Bool.false_eq_true, if_false, intsV, List.map_cons, List.map_nil, List.length_cons, List.length_nil, Nat.zero_add, Nat.reduceAdd, World.size_drew] at hrun6
            have hrun7 : (AppS #[23, 23] 23 #[.slice a5 len5 c5', .slice (some ⟨wr.heap.size, 0, none⟩) 3 3]).run Tryd.prog (wr.alloc (.cells #[.int .i64 0, .int .i64 yw, .int .i64 yv] 3)).drew = .ok (.slice (some ⟨g6, 0, none⟩) (len5 + 3) cap6) w6 := hrun6
            clear hrun6 hrun1' hrun2 HS HI5
            go_wp2
            go_region
            all_goals go_wp2
            all_goals go_roundw
            case rel => exact ⟨q + 1, _, _, _, by omega, by go_num, rfl, HS6⟩
            case measure => simp [intOf]; omega
          | true =>
            simp only [bitI, if_true, intsV, List.map_cons, List.map_nil, List.length_cons, List.length_nil, Nat.zero_add, Nat.reduceAdd, World.size_drew] at hrun6
            have hrun7 : (AppS #[23, 23] 23 #[.slice a5 len5 c5', .slice (some ⟨wr.heap.size, 0, none⟩) 3 3]).run Tryd.prog (wr.alloc (.cells #[.int .i64 1, .int .i64 yw, .int .i64 yv] 3)).drew = .ok (.slice (some ⟨g6, 0, none⟩) (len5 + 3) cap6) w6 := hrun6
            clear hrun6 hrun1' hrun2 HS HI5
            go_wp2
            go_region
            all_goals go_wp2
            all_goals go_roundw
            case rel => exact ⟨q + 1, _, _, _, by omega, by go_num, rfl, HS6⟩
            case measure => simp [intOf]; omega
        · obtain rfl : q = k := by omega
          clear hrun1' hrun2 HS
          go_wp2
          go_roundw
          case rel => exact ⟨j + 1, _, _, _, by omega, by go_num, rfl, by rw [numA_succ, HK.out.1]; exact HI5.out.1, HI5.out.2.1⟩
          case measure => simp [intOf]; omega
    · obtain rfl : j = n := by omega
      have c6r := (hbr.cell (lt_of_cell c6)).trans c6
      have c7r := (hbr.cell (lt_of_cell c7)).trans c7
      have c8r := (hbr.cell (lt_of_cell c8)).trans c8
      obtain ⟨hW, hO, hR, hwm, hol⟩ := HW.out
      have hlen : len ≤ 1000 := by
        have h1 := HI.out.is
        have h0 := HLEN.out j (by omega)
        have h2 : (11 + rg) * j ≤ 211 * 4 := Nat.mul_le_mul (by omega) (by omega)
        omega
      have hHI := HI.out
      rw [← HL.out, numA_all] at hHI
      obtain ⟨a1, cap1, w1, hrun1, hI1, hg1⟩ := app_all (sc := wc) hHI hbr.size (IIn.below hW hbr) (by omega)
      have hB1 := hHI.grew hbr hbr.size hg1
      have d7 := (hB1.cell (lt_of_cell c7)).trans c7
      obtain ⟨a2, cap2, w2, hrun2, hI2, hg2⟩ := app_all (sc := oc) hI1 hB1.size (IIn.below hO hB1) (by omega)
      have hB2 := hI1.grew hB1 hB1.size hg2
      have d8 := (hB2.cell (lt_of_cell c8)).trans c8
      obtain ⟨a3, cap3, w3, hrun3, hI3, hg3⟩ := app_all (sc := pc) hI2 hB2.size (IIn.below hR hB2) (by omega)
      have hB3 := hI2.grew hB2 hB2.size hg3
      have HFIN : Hid (IsI w3 w.heap.size a3 (len + s.words.length + s.own.length + s.prints.length) cap3 (numsX s) ∧ Below w.heap.size w w3) := ⟨hI3, hB3⟩
      clear hI1 hI2 hI3 hg1 hg2 hg3 hB1 hB2 hB3 hHI HI hW hO hR hwm hol HW HT HLEN
      go_wp2
      go_ret
      exact ⟨_, _, _, rfl, HFIN.out.1, HFIN.out.2⟩

end Go.Proofs.YtocfocjnnjdcgaaDoor
