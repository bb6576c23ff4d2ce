/-
  What the memories tell, and a state.
-/
import Derived.Test.YtefnmbnakphhfadGreatDoorTelP
import Derived.Test.YtefnmbnakphhfadGreatDoorDSt
namespace Go.Proofs.YtefnmbnakphhfadGreatDoor
open Go.RowKit

section
variable {fid : Nat} {caps : Array Value} {B : Nat} {Q : Cd} {sb mb : Nat} {v : Rp → Value} {s : Sx} {I : List Int → World → Prop}
theorem Ear.words (hE : Ear fid caps B Q sb mb v s I) {W : World} {xs : List Int} (h0 : I xs W) (hfit : ∀ x, x ∈ s.words → I64n x) (hlen : xs.length + s.words.length ≤ 20000) : ∃ a c, v .words = .slice a s.words.length c ∧ Hid (Calls Tryz.prog 95 #[.slice a s.words.length c, .func (.func fid) #[] caps] W fun e w' => e = .returned (.tuple #[]) ∧ I (xs ++ s.words) w') := by
  obtain ⟨a, c, e, _⟩ := (hE.st _ _ h0).rowW
  refine ⟨a, c, e, tellAll_any W fid caps B Q sb mb v s I hE a c s.words xs (fun ys V hV => ?_) hfit hlen h0⟩
  obtain ⟨a', c', e', h⟩ := (hE.st _ _ hV).rowW
  rw [e] at e'
  simp only [Value.slice.injEq] at e'
  rw [e'.1]; exact h
theorem Ear.own (hE : Ear fid caps B Q sb mb v s I) {W : World} {xs : List Int} (h0 : I xs W) (hfit : ∀ x, x ∈ s.own → I64n x) (hlen : xs.length + s.own.length ≤ 20000) : ∃ a c, v .own = .slice a s.own.length c ∧ Hid (Calls Tryz.prog 95 #[.slice a s.own.length c, .func (.func fid) #[] caps] W fun e w' => e = .returned (.tuple #[]) ∧ I (xs ++ s.own) w') := by
  obtain ⟨a, c, e, _⟩ := (hE.st _ _ h0).rowO
  refine ⟨a, c, e, tellAll_any W fid caps B Q sb mb v s I hE a c s.own xs (fun ys V hV => ?_) hfit hlen h0⟩
  obtain ⟨a', c', e', h⟩ := (hE.st _ _ hV).rowO
  rw [e] at e'
  simp only [Value.slice.injEq] at e'
  rw [e'.1]; exact h
theorem Ear.prints (hE : Ear fid caps B Q sb mb v s I) {W : World} {xs : List Int} (h0 : I xs W) (hfit : ∀ x, x ∈ s.prints → I64n x) (hlen : xs.length + s.prints.length ≤ 20000) : ∃ a c, v .prints = .slice a s.prints.length c ∧ Hid (Calls Tryz.prog 95 #[.slice a s.prints.length c, .func (.func fid) #[] caps] W fun e w' => e = .returned (.tuple #[]) ∧ I (xs ++ s.prints) w') := by
  obtain ⟨a, c, e, _⟩ := (hE.st _ _ h0).rowP
  refine ⟨a, c, e, tellAll_any W fid caps B Q sb mb v s I hE a c s.prints xs (fun ys V hV => ?_) hfit hlen h0⟩
  obtain ⟨a', c', e', h⟩ := (hE.st _ _ hV).rowP
  rw [e] at e'
  simp only [Value.slice.injEq] at e'
  rw [e'.1]; exact h
theorem Ear.regs (hE : Ear fid caps B Q sb mb v s I) {W : World} {xs : List Int} (h0 : I xs W) (t : Nat) (hfit : ∀ x, x ∈ (thOf s t).regs → I64n x) (hlen : xs.length + (thOf s t).regs.length ≤ 20000) : ∃ a c, v (.regs t) = .slice a (thOf s t).regs.length c ∧ Hid (Calls Tryz.prog 95 #[.slice a (thOf s t).regs.length c, .func (.func fid) #[] caps] W fun e w' => e = .returned (.tuple #[]) ∧ I (xs ++ (thOf s t).regs) w') := by
  obtain ⟨a, c, e, _⟩ := (hE.st _ _ h0).rowR t
  refine ⟨a, c, e, tellAll_any W fid caps B Q sb mb v s I hE a c (thOf s t).regs xs (fun ys V hV => ?_) hfit hlen h0⟩
  obtain ⟨a', c', e', h⟩ := (hE.st _ _ hV).rowR t
  rw [e] at e'
  simp only [Value.slice.injEq] at e'
  rw [e'.1]; exact h
end

set_option maxRecDepth 100000 in
set_option maxHeartbeats 1600000 in
/-- What the plain memory tells. -/
theorem ptell_any (w : World) (fid : Nat) (caps : Array Value) (B : Nat) (Q : Cd) (sb mb : Nat) (v : Rp → Value) (s : Sx) (I : List Int → World → Prop) (hE : Ear fid caps B Q sb mb v s I) (xs : List Int) (hf1 : ∀ x, x ∈ s.words → I64n x) (hf2 : ∀ x, x ∈ s.own → I64n x) (hlen : xs.length + s.words.length + s.own.length ≤ 20000) (h0 : I xs w) :
    Calls Tryz.prog 155 #[.pointer (some ⟨mb, 0, none⟩), .func (.func fid) #[] caps] w fun e w' => e = .returned (.tuple #[]) ∧ I (xs ++ s.words ++ s.own) w' := by
  obtain ⟨wa, wc, ew, HC1⟩ := hE.words h0 hf1 (by omega)
  have m0 := (hE.st _ _ h0).m0
  rw [ew] at m0
  have HC2 : Hid (∀ W, I (xs ++ s.words) W → ∃ a c, W.cell? ⟨mb, 1, none⟩ = some (.slice a s.own.length c) ∧ Hid (Calls Tryz.prog 95 #[.slice a s.own.length c, .func (.func fid) #[] caps] W fun e w' => e = .returned (.tuple #[]) ∧ I (xs ++ s.words ++ s.own) w')) := fun W h => by
    obtain ⟨a, c, e, h2⟩ := hE.own h hf2 (by rw [List.length_append]; exact hlen)
    have m1 := (hE.st _ _ h).m1
    rw [e] at m1
    exact ⟨a, c, m1, h2⟩
  obtain ⟨n, hn⟩ : ∃ n, s.words.length = n := ⟨_, rfl⟩
  obtain ⟨k, hk⟩ : ∃ n, s.own.length = n := ⟨_, rfl⟩
  rw [hn] at m0 HC1
  rw [hk] at HC2
  clear hE ew h0 hlen hn hk hf1 hf2
  go_enter Tryz.func155, Tryz.ntmps155
  go_wp2_with fail
  refine Calls.mono HC1.out ?_
  rintro e w1 ⟨rfl, h1⟩
  obtain ⟨oa, oc, m1, HC3⟩ := HC2.out w1 h1
  clear h1 HC1 HC2
  go_wp2_with fail
  refine Calls.mono HC3.out ?_
  rintro e w2 ⟨rfl, h2⟩
  go_wp2_with fail
  go_end0
  exact ⟨rfl, h2⟩

/-- What waits of the first j threads, as numbers. -/
def telBs (s : Sx) (j : Nat) : List Int := (List.range j).flatMap fun t => telB (thOf s t)
theorem telBs_all (s : Sx) : telBs s s.ths.length = s.ths.flatMap telB := by
  unfold telBs
  conv => rhs; rw [show s.ths = (List.range s.ths.length).map (thOf s) by
    refine List.ext_getElem? fun i => ?_
    rw [List.getElem?_map]
    by_cases h : i < s.ths.length
    · rw [List.getElem?_range h, List.getElem?_eq_getElem h]
      show _ = some (thOf s i)
      unfold thOf
      rw [List.getD_eq_getElem?_getD, List.getElem?_eq_getElem h]; rfl
    · rw [List.getElem?_eq_none (by omega), List.getElem?_eq_none (by simpa using h)]; rfl]
  rw [List.flatMap_map]
theorem telBs_succ (s : Sx) (j : Nat) : telBs s (j + 1) = telBs s j ++ ([((thOf s j).wait.length : Int)] ++ (thOf s j).wait.flatMap telW) := by
  unfold telBs
  rw [List.range_succ, List.flatMap_append]
  simp [telB]
theorem waits_next {l : List Wt} {q : Nat} (h : q < l.length) : (l.take (q + 1)).flatMap telW = (l.take q).flatMap telW ++ telW (l.getD q default) := by
  rw [List.take_add_one, List.getElem?_eq_getElem h, List.getD_eq_getElem?_getD, List.getElem?_eq_getElem h, List.flatMap_append]
  simp
set_option maxRecDepth 100000 in
set_option maxHeartbeats 1600000 in
theorem sign_any (w : World) (lk : Bool) (wh : Int) (h0 : 0 ≤ wh) (h1 : wh ≤ 64) :
    Calls Tryz.prog 156 #[.agg #[.bool lk, .int .i64 wh]] w fun e w' => e = .returned (.int .i64 (if lk then -1 - wh else wh)) ∧ Below w.heap.size w w' := by
  cases lk with
  | true =>
    go_enter Tryz.func156, Tryz.ntmps156
    go_wp2
    go_ret
    exact ⟨rfl, (Below.refl _ _).alloc (Nat.le_refl _) _⟩
  | false =>
    go_enter Tryz.func156, Tryz.ntmps156
    go_wp2
    go_ret
    exact ⟨rfl, (Below.refl _ _).alloc (Nat.le_refl _) _⟩

/-- What the memory with buffers tells of one that waits. -/
theorem Ear.waits {fid : Nat} {caps : Array Value} {B : Nat} {Q : Cd} {sb mb : Nat} {v : Rp → Value} {s : Sx} {I : List Int → World → Prop} (hE : Ear fid caps B Q sb mb v s I) (hb : Q.K.bf = true) {W : World} {ys : List Int} (h0 : I ys W) {t q : Nat} (hq : q < (thOf s t).wait.length) {qa : Option Addr} {qc : Nat} (e : v (.buf t) = .slice qa (thOf s t).wait.length qc) :
    ∃ b, qa = some ⟨b, 0, none⟩ ∧ b < W.heap.size ∧ W.cell? ⟨b, q * 3, none⟩ = some (.bool ((thOf s t).wait.getD q default).lk) ∧ W.cell? ⟨b, q * 3 + 1, none⟩ = some (.int .i64 ((thOf s t).wait.getD q default).wh) ∧ W.cell? ⟨b, q * 3 + 2, none⟩ = some (.int .i64 ((thOf s t).wait.getD q default).what) := by
  have hs := hE.st _ _ h0
  have ho := hs.bufO hb t
  obtain ⟨g, cap, h1, h2, _, h3⟩ := fam_block ho (by omega)
  rw [e] at h1
  simp only [Value.slice.injEq] at h1
  exact ⟨g, h1.1, h3, fam_cell ho h2 (rows3_get (j := 0) hq (by omega)), fam_cell ho h2 (rows3_get (j := 1) hq (by omega)), fam_cell ho h2 (rows3_get (j := 2) hq (by omega))⟩
set_option maxRecDepth 100000 in
set_option maxHeartbeats 3200000 in
/-- What the memory with buffers tells. -/
theorem btell_any (w : World) (fid : Nat) (caps : Array Value) (B : Nat) (Q : Cd) (sb mb : Nat) (v : Rp → Value) (s : Sx) (I : List Int → World → Prop) (hE : Ear fid caps B Q sb mb v s I) (hK : Q.K = bufK) (hnt : Q.nt = s.ths.length) (hn0 : 0 < s.ths.length) (hn4 : s.ths.length ≤ 4) (hw3 : ∀ t, t < s.ths.length → (thOf s t).wait.length ≤ 3) (hwk : ∀ t, t < s.ths.length → ∀ x, x ∈ (thOf s t).wait → 0 ≤ x.wh ∧ x.wh ≤ 64) (hf3 : ∀ t, t < s.ths.length → ∀ x, x ∈ (thOf s t).wait → I64n x.what) (xs : List Int) (hf1 : ∀ x, x ∈ s.words → I64n x) (hf2 : ∀ x, x ∈ s.own → I64n x) (hlen : xs.length + s.words.length + s.own.length ≤ 19900) (h0 : I xs w) :
    Calls Tryz.prog 143 #[.pointer (some ⟨Q.bb, 0, none⟩), .func (.func fid) #[] caps] w fun e w' => e = .returned (.tuple #[]) ∧ I (xs ++ s.words ++ s.own ++ s.ths.flatMap telB) w' := by
  have hb := buf_bf hK
  have hs := hE.st _ _ h0
  have b0 := hs.b0 hb
  obtain ⟨lb, lc, hlv, hlb, _⟩ := hs.bufsB hb (by omega)
  have kF := hE.fn
  have HC1 := Hid.out (p := Hid _) (ptell_any w fid caps B Q sb mb v s I hE xs hf1 hf2 (by omega) h0)
  obtain ⟨Y, hY⟩ : ∃ Y, xs ++ s.words ++ s.own = Y := ⟨_, rfl⟩
  have hYl : Y.length ≤ 19900 := by rw [← hY]; simp only [List.length_append]; omega
  rw [hY] at HC1 ⊢
  obtain ⟨n, hn⟩ : ∃ n, s.ths.length = n := ⟨_, rfl⟩
  rw [hn] at hnt hn0 hn4 hw3 hwk hf3
  have hbl : ∀ j, j ≤ n → (telBs s j).length ≤ 7 * j := by
    intro j
    induction j with
    | zero => intro _; simp [telBs]
    | succ j ih =>
      intro hj
      rw [telBs_succ]
      have h1 := ih (by omega)
      have h2 := hw3 j (by omega)
      have h3 : ((thOf s j).wait.flatMap telW).length = 2 * (thOf s j).wait.length := by
        generalize (thOf s j).wait = l
        induction l with
        | nil => rfl
        | cons a r ih => rw [List.flatMap_cons, List.length_append, ih]; simp [telW]; omega
      simp only [List.length_append, List.length_singleton, h3]
      omega
  have HB : Hid (∀ ys W, I ys W → W.cell? ⟨Q.bb, 1, none⟩ = some (.slice (some ⟨lb, 0, none⟩) n lc) ∧ ∀ j, j < n → ∃ qa qc, v (.buf j) = .slice qa (thOf s j).wait.length qc ∧ W.cell? ⟨lb, j, none⟩ = some (.slice qa (thOf s j).wait.length qc)) := fun ys W h => by
    have hq := hE.st _ _ h
    have b1 := hq.b1 hb
    rw [hlv, hnt] at b1
    refine ⟨b1, fun j hj => ?_⟩
    obtain ⟨qa, qc, e⟩ := hq.bufV hb j
    have := hq.bufc hb hlb (t := j) (by omega)
    rw [e] at this
    exact ⟨qa, qc, e, this⟩
  have HT : Hid (∀ ys W m, I64n m → ys.length ≤ 20000 → I ys W → Calls Tryz.prog fid (#[.int .i64 m] ++ caps) W fun e W' => e = .returned (.tuple #[]) ∧ I (ys ++ [m]) W' ∧ Txt W W') := hE.tell
  have HMORE : Hid (∀ ys W W', I ys W → Below W.heap.size W W' → I ys W') := hE.more
  have HALL : Hid (telBs s n = s.ths.flatMap telB) := by show _ = _; rw [← hn]; exact telBs_all s
  have HW3 : Hid (∀ t, t < n → (thOf s t).wait.length ≤ 3 ∧ (∀ x, x ∈ (thOf s t).wait → 0 ≤ x.wh ∧ x.wh ≤ 64) ∧ ∀ x, x ∈ (thOf s t).wait → I64n x.what) := fun t ht => ⟨hw3 t ht, hwk t ht, hf3 t ht⟩
  have HBL := Hid.out (p := Hid _) hbl
  have HE := Hid.out (p := Hid _) hE
  have HBF : Hid (Q.K.bf = true) := hb
  rw [show s.ths.flatMap telB = telBs s n from HALL.out.symm]
  clear hE hs hlv hlb hK hnt hw3 hwk hf1 hf2 hf3 hlen h0 hY hn hbl HALL hb
  go_enter Tryz.func143, Tryz.ntmps143
  go_wp2_with fail
  refine Calls.mono HC1.out ?_
  rintro e w1 ⟨rfl, h1⟩
  obtain ⟨b1, _⟩ := HB.out _ _ h1
  have H1 : Hid (I (Y ++ telBs s 0) w1) := by show I _ _; simpa [telBs] using h1
  clear h1 HC1
  go_wp2_with fail
  go_loopw [19] (fun i wr => ∃ j : Nat, j ≤ n ∧ i = .int .i64 j ∧ Hid (I (Y ++ telBs s j) wr)) (fun i _ => n - (intOf i).toNat)
  case atStart => exact ⟨0, Nat.zero_le _, rfl, H1⟩
  case round =>
    obtain ⟨j, hj, rfl, HI⟩ := hrel
    by_cases hlt : j < n
    · obtain ⟨_, hcell⟩ := HB.out _ _ HI.out
      obtain ⟨qa, qc, eq, cq⟩ := hcell j hlt
      have HEQ : Hid (v (.buf j) = .slice qa (thOf s j).wait.length qc) := eq
      obtain ⟨hl3, hwk, hfw⟩ := HW3.out j hlt
      have hlj := HBL.out j (by omega)
      obtain ⟨k, hk⟩ : ∃ k, (thOf s j).wait.length = k := ⟨_, rfl⟩
      have HK : Hid ((thOf s j).wait.length = k) := hk
      have HWK : Hid (∀ q, q < k → (0 ≤ ((thOf s j).wait.getD q default).wh ∧ ((thOf s j).wait.getD q default).wh ≤ 64) ∧ I64n ((thOf s j).wait.getD q default).what) := fun q hq => by
        have hq' : q < (thOf s j).wait.length := by rw [hk]; exact hq
        have hm : (thOf s j).wait.getD q default ∈ (thOf s j).wait := by
          rw [List.getD_eq_getElem?_getD, List.getElem?_eq_getElem hq']; exact List.getElem_mem hq'
        exact ⟨hwk _ hm, hfw _ hm⟩
      rw [hk] at cq hl3
      have HC2 := Hid.out (p := Hid _) (HT.out (Y ++ telBs s j) wr (k : Int) ⟨by omega, by omega⟩ (by rw [List.length_append]; omega) HI.out)
      clear eq hwk hfw hk hcell HI H1 b1
      go_wp2_with fail
      refine Calls.mono HC2.out ?_
      rintro e w2 ⟨rfl, h2, _⟩
      have H2 : Hid (I (Y ++ telBs s j ++ [(k : Int)] ++ ((thOf s j).wait.take 0).flatMap telW) w2) := by show I _ _; simpa using h2
      clear HC2 h2
      go_wp2_with fail
      go_loopw [29] (fun i wr2 => ∃ q : Nat, q ≤ k ∧ i = .int .i64 q ∧ Hid (I (Y ++ telBs s j ++ [(k : Int)] ++ ((thOf s j).wait.take q).flatMap telW) wr2)) (fun i _ => k - (intOf i).toNat)
      case atStart => exact ⟨0, Nat.zero_le _, rfl, H2⟩
      case round =>
        obtain ⟨q, hq, rfl, HI⟩ := hrel
        clear H2
        by_cases hql : q < k
        · obtain ⟨b, rfl, lb', x0, x1, x2⟩ := HE.out.waits HBF.out HI.out (t := j) (q := q) (by rw [HK.out]; exact hql) HEQ.out
          obtain ⟨⟨hw0, hw6⟩, hwf⟩ := HWK.out q hql
          have HN : Hid (((thOf s j).wait.take (q + 1)).flatMap telW = ((thOf s j).wait.take q).flatMap telW ++ telW ((thOf s j).wait.getD q default)) := waits_next (by rw [HK.out]; exact hql)
          obtain ⟨⟨lk, wh, what⟩, hx⟩ : ∃ x, (thOf s j).wait.getD q default = x := ⟨_, rfl⟩
          rw [hx] at x0 x1 x2 hw0 hw6 hwf HN
          clear hx
          dsimp only at x0 x1 x2 hw0 hw6 hwf
          have HLN : Hid ((Y ++ telBs s j ++ [(k : Int)] ++ ((thOf s j).wait.take q).flatMap telW).length ≤ 19999) := by
            have h3 : ∀ l : List Wt, (l.flatMap telW).length = 2 * l.length := by
              intro l
              induction l with
              | nil => rfl
              | cons a r ih => rw [List.flatMap_cons, List.length_append, ih]; simp [telW]; omega
            show _ ≤ _
            simp only [List.length_append, List.length_singleton, h3, List.length_take]
            omega
          obtain ⟨V, hV⟩ : ∃ V, V = wr.alloc (.cells #[.bool lk, .int .i64 wh, .int .i64 what] 212) := ⟨_, rfl⟩
          have HIV : Hid (I (Y ++ telBs s j ++ [(k : Int)] ++ ((thOf s j).wait.take q).flatMap telW) V) := HMORE.out _ _ _ HI.out (by rw [hV]; exact (Below.refl _ _).alloc (Nat.le_refl _) _)
          have hVb : V.heap[wr.heap.size]? = some (.cells #[.bool lk, .int .i64 wh, .int .i64 what] 212) := by rw [hV]; exact heap_alloc_new _ _
          have HSG := Hid.out (p := Hid _) (sign_any V lk wh hw0 hw6)
          have HV : Hid (wr.alloc (.cells #[.bool lk, .int .i64 wh, .int .i64 what] 212) = V) := hV.symm
          have HVB := Hid.out (p := Hid _) hVb
          clear hV hVb HI HWK
          go_wp2_with fail
          rw [HV.out]
          refine Calls.mono HSG.out ?_
          rintro e w3 ⟨rfl, hb3⟩
          have HI3 := Hid.out (p := Hid _) (HMORE.out _ _ _ HIV.out hb3)
          have hbx3 : w3.heap[wr.heap.size]? = some (.cells #[.bool lk, .int .i64 wh, .int .i64 what] 212) := (hb3.block _ (box_lt HVB.out)).trans HVB.out
          obtain ⟨sg, hsg⟩ : ∃ x : Int, (if lk = true then -1 - wh else wh) = x := ⟨_, rfl⟩
          have hsgf : I64n sg := by rw [← hsg]; split <;> exact ⟨by omega, by omega⟩
          have HSGE : Hid ((if lk = true then -1 - wh else wh) = sg) := hsg
          rw [hsg]
          have HC3 := Hid.out (p := Hid _) (HT.out _ w3 sg hsgf (by have := HLN.out; omega) HI3.out)
          have HBX3 := Hid.out (p := Hid _) hbx3
          clear HSG hb3 hbx3 HI3 HIV hsg
          go_wp2_with fail
          refine Calls.mono HC3.out ?_
          rintro e w4 ⟨rfl, h4, ht4⟩
          have hbx4 := ht4 _ _ _ (by decide) (by decide) HBX3.out
          have c2 : w4.cell? ⟨wr.heap.size, 2, none⟩ = some (.int .i64 what) := box_cell hbx4 rfl
          have HC4 := Hid.out (p := Hid _) (HT.out _ w4 what hwf (by rw [List.length_append]; have := HLN.out; simp only [List.length_singleton]; omega) h4)
          clear HC3 h4 ht4 hbx4 HBX3
          go_wp2_with fail
          refine Calls.mono HC4.out ?_
          rintro e w5 ⟨rfl, h5, _⟩
          have H5 : Hid (I (Y ++ telBs s j ++ [(k : Int)] ++ ((thOf s j).wait.take (q + 1)).flatMap telW) w5) := by
            show I _ _
            rw [HN.out]
            have e : telW ⟨lk, wh, what⟩ = [sg] ++ [what] := by rw [← HSGE.out]; rfl
            rw [e]
            simpa only [List.append_assoc] using h5
          clear HC4 h5
          go_wp2_with fail
          go_roundw
          case rel => exact ⟨q + 1, by omega, by go_num, H5⟩
          case measure => simp [intOf]; omega
        · obtain rfl : q = k := by omega
          have H5 : Hid (I (Y ++ telBs s (j + 1)) wr) := by
            show I _ _
            rw [telBs_succ, HK.out]
            have h5 := HI.out
            rw [show (thOf s j).wait.take q = (thOf s j).wait by rw [← HK.out, List.take_length]] at h5
            simpa only [List.append_assoc] using h5
          clear HI
          go_wp2_with fail
          go_roundw
          case rel => exact ⟨j + 1, by omega, by go_num, H5⟩
          case measure => simp [intOf]; omega
    · obtain rfl : j = n := by omega
      go_wp2
      go_end0
      exact ⟨rfl, HI.out⟩

end Go.Proofs.YtefnmbnakphhfadGreatDoor
