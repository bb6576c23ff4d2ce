/-
  The law of linked programs, by the program's own machines: the walk.
-/
import Derived.Test.YtefnmbnakphhfadGreatDoorSpunI
namespace Go.Proofs.YtefnmbnakphhfadGreatDoor
open Go.RowKit

/-- How vast a program is: it answers yes or no. -/
def IsBoolS (e : Ending) : Prop := ∃ b, e = .returned (.bool b)
set_option maxHeartbeats 1000000 in
theorem vastS_any (ca : Option Addr) (n cc : Nat) (wa : Option Addr) (m wc : Nat) (lk rg : Int) (A : Nat → Option Addr) (L C : Nat → Nat) (X : Nat → Nat → Nat → Int) (_hm : m ≤ 9223372036854775807) (w : World) (hp : PIn w ca n A L C X) :
    Calls Tryz.prog 11 #[prgV ca n cc wa m wc lk rg] w fun e w' => IsBoolS e ∧ Below w.heap.size w w' := by
  have hn := hp.num
  have HB : Below w.heap.size w (w.alloc (.cells #[.slice ca n cc, .slice wa m wc, .int .i64 lk, .int .i64 rg] 25)) := (Below.refl _ _).alloc (Nat.le_refl _) _
  have hp2 := hp.below HB
  clear hp
  go_enter Tryz.func11, Tryz.ntmps11
  go_wp2
  go_loop [3, 4] (fun s i => ∃ (q : Int) (k : Nat), k ≤ n ∧ s = .int .i64 q ∧ i = .int .i64 k) (fun _ i => n - (intOf i).toNat)
  case atStart => exact ⟨_, 0, Nat.zero_le _, rfl, rfl⟩
  case round =>
    obtain ⟨q, k, hk, rfl, rfl⟩ := hrel
    by_cases hlt : k < n
    · obtain ⟨cb, co, rfl, hcell⟩ := hp2.code k hlt
      have hl := hp2.len k hlt
      by_cases h100 : (k : Int) < 100
      · go_wp2
        go_round
        case rel => exact ⟨_, k + 1, by omega, rfl, by go_num⟩
        case measure => simp [intOf]; omega
      · go_wp2
        all_goals go_ret
        all_goals exact ⟨⟨_, rfl⟩, HB⟩
    · go_wp2
      all_goals go_ret
      all_goals exact ⟨⟨_, rfl⟩, HB⟩
/-- What TSO tells; it lies in new memory. -/
def TsoE (w : World) (L : Nat → Nat) (X : Nat → Nat → Nat → Int) (s0 : Sx) (e : Ending) (w' : World) : Prop :=
  ∃ (full : Bool) (a : Option Addr) (cap : Nat) (es : List En), e = .returned (.tuple #[.slice a es.length cap, ints3 (if full then 10 else 0) 0 0]) ∧ Told (nxX L X 1) (outsX L X 1) s0 4000 full (es.map En.o) ∧ (∀ V, (∀ g, w.heap.size ≤ g → g < w'.heap.size → V.heap[g]? = w'.heap[g]?) → EIn V a es ∧ ∀ x, x ∈ es → EnOk V x ∧ x.o.ws.length ≤ x.wc) ∧ es.length ≤ 100000 ∧ Below w.heap.size w w'
theorem OutQ.tsoE {w w' : World} {L : Nat → Nat} {X : Nat → Nat → Nat → Int} {s0 : Sx} {e : Ending} (h : OutQ w L X 1 s0 e w') : TsoE w L X s0 e w' := by
  obtain ⟨full, a, len, cap, es, h1, h2, h3, h4, h5, h6, h7⟩ := h
  have hl := h3.is
  subst hl
  refine ⟨full, a, cap, es, h1, h2, fun V hV => ?_, h6, h7⟩
  have hr : ∀ {e : TypeId} {size : Nat} {v : Value} {n : Nat} {xs : List Value}, w'.ownsRow w.heap.size e size v n xs → V.ownsRow w.heap.size e size v n xs := fun hr => fam_keeps hr (fun g hg => hV g (hr.lt g hg).1 (hr.lt g hg).2)
  have h3' : IsO V w.heap.size a es.length cap es := ⟨h3.is, hr h3.own⟩
  refine ⟨h3'.ein, fun x hx => ?_⟩
  have hx' : EnJ V w.heap.size x := ⟨hr (h4 x hx).ws, hr (h4 x hx).pr, (h4 x hx).wl, (h4 x hx).pl⟩
  refine ⟨hx'.ok, ?_⟩
  rcases hx'.ws.2 with ⟨h8, _⟩ | ⟨g, c, cur, h8, _, _, h9, _⟩
  · simp only [Value.slice.injEq] at h8
    omega
  · simp only [Value.slice.injEq] at h8
    omega
/-- What is known behind Link, where it says nothing wrong. -/
structure SpunQ (w W w' : World) (P Q : Value) (m : Nat) (L : Nat → Nat) (X : Nat → Nat → Nat → Int) (L' : Nat → Nat) (X' : Nat → Nat → Nat → Int) (s0 s1 : Sx) : Prop where
  m64 : m ≤ 64
  old : ∀ V, Below w.heap.size w V → Calls Tryz.prog 13 #[P] V (TsoE V L X s0)
  new : ∀ V, (∀ g, W.heap.size ≤ g → g < w'.heap.size → V.heap[g]? = w'.heap[g]?) → Below w.heap.size w V → w'.heap.size ≤ V.heap.size → Calls Tryz.prog 13 #[Q] V (TsoE V L' X' s1)
  same : ∀ a b, Told (nxX L X 1) (outsX L X 1) s0 4000 false a → (∀ o, o ∈ a → o.st ≠ 1) → Told (nxX L' X' 1) (outsX L' X' 1) s1 4000 false b → (∀ o, o ∈ a → o.st = 0 → ∃ q, q ∈ b ∧ mtO m o q = true) ∧ ∀ o, o ∈ b → o.st = 0 → ∃ q, q ∈ a ∧ mtO m o q = true
set_option maxRecDepth 100000 in
set_option maxHeartbeats 12800000 in
theorem topSpun_walk (w : World) (ca : Option Addr) (n cc : Nat) (wa : Option Addr) (m wc : Nat) (lk rg : Int) (L : Nat → Nat) (X : Nat → Nat → Nat → Int) (L' : Nat → Nat) (X' : Nat → Nat → Nat → Int) (s0 s1 : Sx)
    (HV : Hid (∀ W, Below w.heap.size w W → Calls Tryz.prog 11 #[.agg #[.slice ca n cc, .slice wa m wc, .int .i64 lk, .int .i64 rg]] W fun e w' => ∃ b, e = .returned (.bool b) ∧ Below W.heap.size W w'))
    (HLIT : Hid (∀ V, Below w.heap.size w V → Calls Tryz.prog 12 #[.agg #[.slice (some ⟨V.heap.size + 1, 0, none⟩) 1 1, .slice none 0 0, .int .i64 1, .int .i64 1]] ((V.alloc (.cells #[.int .i64 17, .int .i64 0, .int .i64 0, .int .i64 0, .int .i64 18, .int .i64 0, .int .i64 0, .int .i64 0] 37)).alloc (.cells #[.slice (some ⟨V.heap.size, 0, none⟩) 2 2] 35)) fun e w' => ∃ vb vo vc ua uc ra rc, e = .returned (.tuple #[.agg #[.slice (some ⟨vb, vo, none⟩) 1 vc, .slice ua 1 uc, .int .i64 0, .int .i64 8], ints3 0 0 0]) ∧ w'.cell? ⟨vb, vo, none⟩ = some (.slice ra 6 rc) ∧ Below V.heap.size V w'))
    (HFP : Hid (∀ W, Below w.heap.size w W → Calls Tryz.prog 12 #[.agg #[.slice ca n cc, .slice wa m wc, .int .i64 lk, .int .i64 rg]] W fun e w' => ∃ (va : Option Addr) (vn vc : Nat) (ua : Option Addr) (un uc : Nat) (ql qr fx fy fz : Int), e = .returned (.tuple #[.agg #[.slice va vn vc, .slice ua un uc, .int .i64 ql, .int .i64 qr], ints3 fx fy fz]) ∧ Hid (Below W.heap.size W w' ∧ (fx = 0 → SpunQ w W w' (prgV ca n cc wa m wc lk rg) (.agg #[.slice va vn vc, .slice ua un uc, .int .i64 ql, .int .i64 qr]) m L X L' X' s0 s1)))) :
    Calls Tryz.prog 5 #[prgV ca n cc wa m wc lk rg] w fun e w' => e = .returned (.bool true) ∧ Below w.heap.size w w' := by
  obtain ⟨PB, hPB⟩ : ∃ o : Obj, o = .cells #[.slice ca n cc, .slice wa m wc, .int .i64 lk, .int .i64 rg] 25 := ⟨_, rfl⟩
  have hb0 : Below w.heap.size w (w.alloc PB) := (Below.refl _ _).alloc (Nat.le_refl _) _
  have hp0 : (w.alloc PB).heap[w.heap.size]? = some PB := heap_alloc_new _ _
  obtain ⟨W0, hW0⟩ : ∃ V, w.alloc PB = V := ⟨_, rfl⟩
  have HW0 : Hid (w.alloc (.cells #[.slice ca n cc, .slice wa m wc, .int .i64 lk, .int .i64 rg] 25) = W0) := by rw [← hW0, hPB]; exact rfl
  have hz0 : W0.heap.size = w.heap.size + 1 := by rw [← hW0]; simp
  rw [hW0] at hb0 hp0
  rw [hPB] at hp0
  have HAT : Hid (∀ V, Below W0.heap.size W0 V → Below w.heap.size w V ∧ V.heap[w.heap.size]? = some (.cells #[.slice ca n cc, .slice wa m wc, .int .i64 lk, .int .i64 rg] 25)) := fun V hb => ⟨hb0.trans (hb.mono hb0.size), (hb.block _ (box_lt hp0)).trans hp0⟩
  have HL0 := HLIT.out W0 hb0
  rw [hz0] at HL0
  have HL := Hid.out (p := Hid _) HL0
  clear hPB hb0 hp0 hW0 HL0 HLIT
  go_enter Tryz.func5, Tryz.ntmps5
  go_wp2_with fail
  rw [HW0.out]
  refine Calls.mono HL.out ?_
  rintro e w2 ⟨vb, vo, vc, ua, uc, ra, rc, rfl, hrow, hb2⟩
  have hb02 : Below W0.heap.size W0 w2 := by rw [hz0]; exact hb2
  obtain ⟨QB, hQB⟩ : ∃ o : Obj, o = .cells #[.slice (some ⟨vb, vo, none⟩) 1 vc, .slice ua 1 uc, .int .i64 0, .int .i64 8] 25 := ⟨_, rfl⟩
  obtain ⟨FB, hFB⟩ : ∃ o : Obj, o = .cells #[.int .i64 0, .int .i64 0, .int .i64 0] 29 := ⟨_, rfl⟩
  obtain ⟨W2, hW2⟩ : ∃ V, (w2.alloc QB).alloc FB = V := ⟨_, rfl⟩
  have hb22 : Below w2.heap.size w2 W2 := by rw [← hW2]; exact ((Below.refl _ _).alloc (Nat.le_refl _) _).alloc (by simp) _
  have hQ2 : W2.heap[w2.heap.size]? = some QB := by rw [← hW2]; exact box_later (heap_alloc_new _ _) _
  have hF2 : W2.heap[w2.heap.size + 1]? = some FB := by rw [← hW2]; have := heap_alloc_new (w2.alloc QB) FB; simpa using this
  have HW2 : Hid ((w2.alloc (.cells #[.slice (some ⟨vb, vo, none⟩) 1 vc, .slice ua 1 uc, .int .i64 0, .int .i64 8] 25)).alloc (.cells #[.int .i64 0, .int .i64 0, .int .i64 0] 29) = W2) := by rw [← hW2, hQB, hFB]; exact rfl
  rw [hQB] at hQ2
  rw [hFB] at hF2
  have hb0W := hb02.trans (hb22.mono hb02.size)
  have HA2 : Hid (∀ V, Below W2.heap.size W2 V → Below W0.heap.size W0 V ∧ V.heap[w2.heap.size]? = some (.cells #[.slice (some ⟨vb, vo, none⟩) 1 vc, .slice ua 1 uc, .int .i64 0, .int .i64 8] 25) ∧ V.heap[w2.heap.size + 1]? = some (.cells #[.int .i64 0, .int .i64 0, .int .i64 0] 29)) := fun V hV => ⟨hb0W.trans (hV.mono hb0W.size), (hV.block _ (box_lt hQ2)).trans hQ2, (hV.block _ (box_lt hF2)).trans hF2⟩
  have hp2 := (HAT.out w2 hb02).2
  have p0 := fun o o' => cell_up (cell_up (box_cell (i := 0) hp2 rfl) o) o'
  have p1 := fun o o' => cell_up (cell_up (box_cell (i := 1) hp2 rfl) o) o'
  have p2 := fun o o' => cell_up (cell_up (box_cell (i := 2) hp2 rfl) o) o'
  have p3 := fun o o' => cell_up (cell_up (box_cell (i := 3) hp2 rfl) o) o'
  have hrw := fun o o' => cell_up (cell_up hrow o) o'
  have hz2 : w.heap.size < w2.heap.size := box_lt hp2
  clear hQB hFB hW2 hb22 hQ2 hF2 hb02 hb0W hp2 hb2 hrow HL HW0
  go_wp2_with fail
  rw [HW2.out]
  refine Calls.mono (HV.out _ (HAT.out _ (HA2.out _ (Below.refl _ _)).1).1) ?_
  rintro e w3 ⟨b, rfl, hb3⟩
  clear p0 p1 p2 p3 hrw HW2 HV
  obtain ⟨hb03, hq3, hf3⟩ := HA2.out w3 hb3
  obtain ⟨hw3, hp3⟩ := HAT.out w3 hb03
  have p0 := box_cell (i := 0) hp3 rfl
  have p1 := box_cell (i := 1) hp3 rfl
  have p2 := box_cell (i := 2) hp3 rfl
  have p3 := box_cell (i := 3) hp3 rfl
  have hz3 : w2.heap.size + 1 < w3.heap.size := box_lt hf3
  have H3 := Hid.out (p := Hid _) (And.intro hw3 hb3)
  clear hb03 hq3 hf3 hw3 hp3 hb3
  cases b with
  | true =>
    go_wp2_with fail
    go_ret
    exact ⟨rfl, H3.out.1⟩
  | false =>
    go_wp2_with fail
    refine Calls.mono (HFP.out _ H3.out.1) ?_
    rintro e w4 ⟨qa, qn, qc, ta, tn, tc, ql, qr, fx, fy, fz, rfl, HF⟩
    clear p0 p1 p2 p3 HFP
    have hb24 := H3.out.2.trans (HF.out.1.mono H3.out.2.size)
    obtain ⟨hb04, hq4, hf4⟩ := HA2.out w4 hb24
    obtain ⟨hw4, hp4⟩ := HAT.out w4 hb04
    have p0 := box_cell (i := 0) hp4 rfl
    have p1 := box_cell (i := 1) hp4 rfl
    have p2 := box_cell (i := 2) hp4 rfl
    have p3 := box_cell (i := 3) hp4 rfl
    have m1 : w.heap.size ≠ w2.heap.size := by omega
    have m2 : w.heap.size ≠ w2.heap.size + 1 := by omega
    have q0 := box_cell (i := 0) hq4 rfl
    have q1 := box_cell (i := 1) hq4 rfl
    have q2 := box_cell (i := 2) hq4 rfl
    have q3 := box_cell (i := 3) hq4 rfl
    have qf : ∀ i, w4.frozen? ⟨w2.heap.size, i, none⟩ = false := fun i => box_free hq4
    have f0 := box_cell (i := 0) hf4 rfl
    have f1 := box_cell (i := 1) hf4 rfl
    have f2 := box_cell (i := 2) hf4 rfl
    have ff : ∀ i, w4.frozen? ⟨w2.heap.size + 1, i, none⟩ = false := fun i => box_free hf4
    have hle1 : w.heap.size ≤ w2.heap.size := Nat.le_of_lt hz2
    have hle2 : w.heap.size ≤ w2.heap.size + 1 := by omega
    obtain ⟨V, hV⟩ : ∃ V, ((((((w4.setCell ⟨w2.heap.size, 0, none⟩ (.slice qa qn qc)).setCell ⟨w2.heap.size, 1, none⟩ (.slice ta tn tc)).setCell ⟨w2.heap.size, 2, none⟩ (.int .i64 ql)).setCell ⟨w2.heap.size, 3, none⟩ (.int .i64 qr)).setCell ⟨w2.heap.size + 1, 0, none⟩ (.int .i64 fx)).setCell ⟨w2.heap.size + 1, 1, none⟩ (.int .i64 fy)).setCell ⟨w2.heap.size + 1, 2, none⟩ (.int .i64 fz) = V := ⟨_, rfl⟩
    have hwV : Below w.heap.size w V := by
      rw [← hV]
      exact ((((((hw4.setCell hle1 _).setCell hle1 _).setCell hle1 _).setCell hle1 _).setCell hle2 _).setCell hle2 _).setCell hle2 _
    have hkV : ∀ g, g ≠ w2.heap.size → g ≠ w2.heap.size + 1 → V.heap[g]? = w4.heap[g]? := fun g n1 n2 => by
      rw [← hV, Below.heap_setCell _ _ _ _ n2, Below.heap_setCell _ _ _ _ n2, Below.heap_setCell _ _ _ _ n2, Below.heap_setCell _ _ _ _ n1, Below.heap_setCell _ _ _ _ n1, Below.heap_setCell _ _ _ _ n1, Below.heap_setCell _ _ _ _ n1]
    have hsV : w4.heap.size ≤ V.heap.size := by rw [← hV]; simp
    have hQV : V.heap[w2.heap.size]? = some (.cells #[.slice qa qn qc, .slice ta tn tc, .int .i64 ql, .int .i64 qr] 25) := by
      have n2 : w2.heap.size ≠ w2.heap.size + 1 := by omega
      rw [← hV, Below.heap_setCell _ _ _ _ n2, Below.heap_setCell _ _ _ _ n2, Below.heap_setCell _ _ _ _ n2, heap_set_same (heap_set_same (heap_set_same (heap_set_same hq4)))]
      rfl
    have hFV : V.heap[w2.heap.size + 1]? = some (.cells #[.int .i64 fx, .int .i64 fy, .int .i64 fz] 29) := by
      have n1 : w2.heap.size + 1 ≠ w2.heap.size := by omega
      have h1 : ((((w4.setCell ⟨w2.heap.size, 0, none⟩ (.slice qa qn qc)).setCell ⟨w2.heap.size, 1, none⟩ (.slice ta tn tc)).setCell ⟨w2.heap.size, 2, none⟩ (.int .i64 ql)).setCell ⟨w2.heap.size, 3, none⟩ (.int .i64 qr)).heap[w2.heap.size + 1]? = some (.cells #[.int .i64 0, .int .i64 0, .int .i64 0] 29) := by
        rw [Below.heap_setCell _ _ _ _ n1, Below.heap_setCell _ _ _ _ n1, Below.heap_setCell _ _ _ _ n1, Below.heap_setCell _ _ _ _ n1]
        exact hf4
      rw [← hV, heap_set_same (heap_set_same (heap_set_same h1))]
      rfl
    have hPV : V.heap[w.heap.size]? = some (.cells #[.slice ca n cc, .slice wa m wc, .int .i64 lk, .int .i64 rg] 25) := by
      rw [hkV w.heap.size (by omega) (by omega)]
      exact hp4
    have HVV := Hid.out (p := Hid _) (And.intro hV (And.intro hwV (And.intro hkV (And.intro hsV (And.intro hQV (And.intro hFV hPV))))))
    have HF4 : w3.heap.size ≤ w4.heap.size := HF.out.1.size
    clear hV hwV hkV hsV hQV hFV hPV hq4 hf4 hw4 hp4 hb04 hb24 HA2 HAT
    by_cases hx : fx = 0
    · subst hx
      have HSQ := Hid.out (p := Hid _) (HF.out.2 (by trivial))
      clear HF
      go_wp2_with fail
      rw [HVV.out.1]
      refine Calls.mono (HSQ.out.old V HVV.out.2.1) ?_
      rintro e w5 ⟨af, aa, ac, xs, rfl, ta5, ak, al, hb5⟩
      have hF5 := (hb5.block _ (box_lt HVV.out.2.2.2.2.2.1)).trans HVV.out.2.2.2.2.2.1
      have hQ5 := (hb5.block _ (box_lt HVV.out.2.2.2.2.1)).trans HVV.out.2.2.2.2.1
      have hP5 := (hb5.block _ (box_lt HVV.out.2.2.2.2.2.2)).trans HVV.out.2.2.2.2.2.2
      clear q0 q1 q2 q3 qf f0 f1 f2 ff p0 p1 p2 p3
      have q0 := box_cell (i := 0) hQ5 rfl
      have q1 := box_cell (i := 1) hQ5 rfl
      have q2 := box_cell (i := 2) hQ5 rfl
      have q3 := box_cell (i := 3) hQ5 rfl
      have f0 := box_cell (i := 0) hF5 rfl
      have f1 := box_cell (i := 1) hF5 rfl
      have f2 := box_cell (i := 2) hF5 rfl
      have ff : ∀ i, w5.frozen? ⟨w2.heap.size + 1, i, none⟩ = false := fun i => box_free hF5
      have m3 : w2.heap.size ≠ w2.heap.size + 1 := by omega
      obtain ⟨az, haz⟩ : ∃ z : Int, (if af = true then (10 : Int) else 0) = z := ⟨_, rfl⟩
      rw [haz]
      obtain ⟨V5, hV5⟩ : ∃ Z, ((w5.setCell ⟨w2.heap.size + 1, 0, none⟩ (.int .i64 az)).setCell ⟨w2.heap.size + 1, 1, none⟩ (.int .i64 0)).setCell ⟨w2.heap.size + 1, 2, none⟩ (.int .i64 0) = Z := ⟨_, rfl⟩
      have hk5 : ∀ g, g ≠ w2.heap.size + 1 → V5.heap[g]? = w5.heap[g]? := fun g hg => by
        rw [← hV5, Below.heap_setCell _ _ _ _ hg, Below.heap_setCell _ _ _ _ hg, Below.heap_setCell _ _ _ _ hg]
      have hs5 : V5.heap.size = w5.heap.size := by rw [← hV5]; simp
      have hw5 : Below w.heap.size w V5 := by
        have h := HVV.out.2.1.trans (hb5.mono HVV.out.2.1.size)
        rw [← hV5]
        exact ((h.setCell hle2 _).setCell hle2 _).setCell hle2 _
      have hF5' : V5.heap[w2.heap.size + 1]? = some (.cells #[.int .i64 az, .int .i64 0, .int .i64 0] 29) := by
        rw [← hV5, heap_set_same (heap_set_same (heap_set_same hF5))]
        rfl
      have hP5' := (hk5 w.heap.size (by omega)).trans hP5
      have hnew : ∀ g, w3.heap.size ≤ g → g < w4.heap.size → V5.heap[g]? = w4.heap[g]? := fun g h1 h2 => by
        rw [hk5 g (by omega), hb5.block g (by have := HVV.out.2.2.2.1; omega)]
        exact HVV.out.2.2.1 g (by omega) (by omega)
      have hsz5 : w4.heap.size ≤ V5.heap.size := by
        rw [hs5]
        exact Nat.le_trans HVV.out.2.2.2.1 hb5.size
      have H5 : Hid (Told (nxX L X 1) (outsX L X 1) s0 4000 af (xs.map En.o) ∧ (∀ V', (∀ g, V.heap.size ≤ g → g < w5.heap.size → V'.heap[g]? = w5.heap[g]?) → EIn V' aa xs ∧ ∀ x, x ∈ xs → EnOk V' x ∧ x.o.ws.length ≤ x.wc) ∧ xs.length ≤ 100000 ∧ (if af = true then (10 : Int) else 0) = az) := ⟨ta5, ak, al, haz⟩
      have H5V : Hid (((w5.setCell ⟨w2.heap.size + 1, 0, none⟩ (.int .i64 az)).setCell ⟨w2.heap.size + 1, 1, none⟩ (.int .i64 0)).setCell ⟨w2.heap.size + 1, 2, none⟩ (.int .i64 0) = V5) := hV5
      have H5W : Hid (Below w.heap.size w V5 ∧ (∀ g, g ≠ w2.heap.size + 1 → V5.heap[g]? = w5.heap[g]?) ∧ V5.heap.size = w5.heap.size ∧ V5.heap[w2.heap.size + 1]? = some (.cells #[.int .i64 az, .int .i64 0, .int .i64 0] 29) ∧ V5.heap[w.heap.size]? = some (.cells #[.slice ca n cc, .slice wa m wc, .int .i64 lk, .int .i64 rg] 25) ∧ (∀ g, w3.heap.size ≤ g → g < w4.heap.size → V5.heap[g]? = w4.heap[g]?) ∧ w4.heap.size ≤ V5.heap.size ∧ V.heap.size ≤ w5.heap.size) := ⟨hw5, hk5, hs5, hF5', hP5', hnew, hsz5, hb5.size⟩
      have hvs : w2.heap.size + 1 < V.heap.size := by
        have h1 := HVV.out.2.2.2.1
        have h2 : w3.heap.size ≤ w4.heap.size := by have := HF4; omega
        omega
      have HVS := Hid.out (p := Hid _) hvs
      clear hF5 hQ5 hP5 hV5 hk5 hs5 hw5 hF5' hP5' hnew hsz5 ta5 ak al haz hb5 HVV hvs
      go_wp2_with fail
      rw [H5V.out]
      refine Calls.mono (HSQ.out.new V5 H5W.out.2.2.2.2.2.1 H5W.out.1 H5W.out.2.2.2.2.2.2.1) ?_
      rintro e w6 ⟨bf, ba, bc, bs, rfl, tb6, bk, bl, hb6⟩
      have hF6 := (hb6.block _ (box_lt H5W.out.2.2.2.1)).trans H5W.out.2.2.2.1
      have hP6 := (hb6.block _ (box_lt H5W.out.2.2.2.2.1)).trans H5W.out.2.2.2.2.1
      clear q0 q1 q2 q3 f0 f1 f2 ff H5V
      obtain ⟨bz, hbz⟩ : ∃ z : Int, (if bf = true then (10 : Int) else 0) = z := ⟨_, rfl⟩
      rw [hbz]
      have f0 := fun o => box_cell (i := 0) (box_later hF6 o) rfl
      have hw6 : Below w.heap.size w w6 := H5W.out.1.trans (hb6.mono H5W.out.1.size)
      have H6 : Hid (Told (nxX L' X' 1) (outsX L' X' 1) s1 4000 bf (bs.map En.o) ∧ (∀ V', (∀ g, V5.heap.size ≤ g → g < w6.heap.size → V'.heap[g]? = w6.heap[g]?) → EIn V' ba bs ∧ ∀ x, x ∈ bs → EnOk V' x ∧ x.o.ws.length ≤ x.wc) ∧ bs.length ≤ 100000 ∧ (if bf = true then (10 : Int) else 0) = bz ∧ Below V5.heap.size V5 w6 ∧ Below w.heap.size w w6 ∧ w6.heap[w.heap.size]? = some (.cells #[.slice ca n cc, .slice wa m wc, .int .i64 lk, .int .i64 rg] 25)) := ⟨tb6, bk, bl, hbz, hb6, hw6, hP6⟩
      clear tb6 bk bl hbz hb6 hw6 hF6 hP6
      by_cases haz : az = 0
      · subst haz
        by_cases hbz : bz = 0
        · subst hbz
          have haf : af = false := by
            have := H5.out.2.2.2
            cases af
            · rfl
            · simp at this
          have hbf : bf = false := by
            have := H6.out.2.2.2.1
            cases bf
            · rfl
            · simp at this
          subst haf hbf
          obtain ⟨W7, hW7⟩ : ∃ Z, w6.alloc (.cells #[.int .i64 0, .int .i64 0, .int .i64 0] 29) = Z := ⟨_, rfl⟩
          have HW7 := Hid.out (p := Hid _) hW7
          have hb67 : Below w6.heap.size w6 W7 := by rw [← hW7]; exact (Below.refl _ _).alloc (Nat.le_refl _) _
          have HK : Hid (∀ Z, Below W7.heap.size W7 Z → (EIn Z aa xs ∧ ∀ x, x ∈ xs → EnOk Z x ∧ x.o.ws.length ≤ x.wc) ∧ (EIn Z ba bs ∧ ∀ x, x ∈ bs → EnOk Z x ∧ x.o.ws.length ≤ x.wc) ∧ Below w.heap.size w Z ∧ Z.cell? ⟨w.heap.size, 1, none⟩ = some (.slice wa m wc)) := fun Z hZ => by
            have h6Z : Below w6.heap.size w6 Z := hb67.trans (hZ.mono hb67.size)
            have h5Z : Below V5.heap.size V5 Z := H6.out.2.2.2.2.1.trans (h6Z.mono H6.out.2.2.2.2.1.size)
            refine ⟨H5.out.2.1 Z (fun g h1 h2 => ?_), H6.out.2.1 Z (fun g _ h2 => h6Z.block g h2), H6.out.2.2.2.2.2.1.trans (h6Z.mono H6.out.2.2.2.2.2.1.size), box_cell ((h6Z.block _ (box_lt H6.out.2.2.2.2.2.2)).trans H6.out.2.2.2.2.2.2) rfl⟩
            rw [h5Z.block g (by rw [H5W.out.2.2.1]; exact h2)]
            exact H5W.out.2.1 g (by have := HVS.out; omega)
          obtain ⟨na, hna⟩ : ∃ k, xs.length = k := ⟨_, rfl⟩
          have HNA := Hid.out (p := Hid _) hna
          have hal : na ≤ 100000 := by rw [← hna]; exact H5.out.2.2.1
          rw [hna]
          clear hna hW7 hb67 H5W HVS
          go_wp2_with fail
          rw [HW7.out]
          clear HW7 f0
          go_loopw [8] (fun i wi => ∃ j : Nat, j ≤ na ∧ i = .int .i64 j ∧ Hid (∀ o, o ∈ (xs.map En.o).take j → o.st ≠ 1) ∧ Below W7.heap.size W7 wi) (fun i _ => na - (intOf i).toNat)
          case atStart => exact ⟨0, Nat.zero_le _, rfl, fun o ho => (by cases ho), Below.refl _ _⟩
          case round =>
            obtain ⟨j, hj, rfl, HT, hbi⟩ := hrel
            obtain ⟨⟨hEa, hOa⟩, ⟨hEb, hOb⟩, hwi, pc1⟩ := HK.out wr hbi
            by_cases hjl : j < na
            · have hjy : j < xs.length := by rw [HNA.out]; exact hjl
              obtain ⟨gb, go, rfl, y0, _, _⟩ := hEa j hjy
              have HTK : Hid ((xs.map En.o).take (j + 1) = (xs.map En.o).take j ++ [(xs.getD j default).o]) := by
                show _ = _
                rw [take_next (by rw [List.length_map]; exact hjy), map_getD hjy]
              obtain ⟨st, hst⟩ : ∃ x, (xs.getD j default).o.st = x := ⟨_, rfl⟩
              rw [hst] at y0
              have HST := Hid.out (p := Hid _) hst
              have HWI := Hid.out (p := Hid _) hwi
              clear hst hEb hOb hOa hwi pc1
              by_cases h1 : st = 1
              · subst h1
                clear HTK HST HT
                go_wp2
                go_ret
                exact ⟨rfl, HWI.out⟩
              · have h1' : (st == 1) = false := by simpa using h1
                have HT2 : Hid (∀ o, o ∈ (xs.map En.o).take (j + 1) → o.st ≠ 1) := fun o ho => by
                  rw [HTK.out] at ho
                  rcases List.mem_append.mp ho with ho | ho
                  · exact HT.out o ho
                  · rw [List.mem_singleton.mp ho, HST.out]; exact h1
                clear HTK HST HT h1
                go_wp2
                go_roundw
                case rel => exact ⟨j + 1, by omega, by go_num, HT2, hbi⟩
                case measure => simp [intOf]; omega
            · obtain rfl : j = na := by omega
              have hnf : ∀ o, o ∈ xs.map En.o → o.st ≠ 1 := fun o ho => HT.out o (by rw [List.take_of_length_le (by rw [List.length_map, HNA.out]; exact Nat.le_refl _)]; exact ho)
              obtain ⟨s1', s2'⟩ := HSQ.out.same _ _ H5.out.1 hnf H6.out.1
              have in1 : ∀ x, x ∈ xs → x.o.st = 0 → ∃ y, y ∈ bs ∧ mtO m x.o y.o = true := fun x hx h0 => by
                obtain ⟨q, hq, h2⟩ := s1' x.o (List.mem_map.mpr ⟨x, hx, rfl⟩) h0
                obtain ⟨y, hy, rfl⟩ := List.mem_map.mp hq
                exact ⟨y, hy, h2⟩
              have in2 : ∀ x, x ∈ bs → x.o.st = 0 → ∃ y, y ∈ xs ∧ mtO m x.o y.o = true := fun x hx h0 => by
                obtain ⟨q, hq, h2⟩ := s2' x.o (List.mem_map.mpr ⟨x, hx, rfl⟩) h0
                obtain ⟨y, hy, rfl⟩ := List.mem_map.mp hq
                exact ⟨y, hy, h2⟩
              have HW1 : Hid (∀ Z, Below W7.heap.size W7 Z → Calls Tryz.prog 14 #[.slice aa j ac, .slice ba bs.length bc, .int .i64 m, .bool true] Z fun e w' => e = .returned (.bool true) ∧ Below Z.heap.size Z w') := fun Z hZ => by
                obtain ⟨⟨e1, o1⟩, ⟨e2, o2⟩, _⟩ := HK.out Z hZ
                have h := within_any Z aa ba xs bs ac bc m e1 e2 o1 o2 H5.out.2.2.1 H6.out.2.2.1 HSQ.out.m64 in1
                rw [HNA.out] at h
                exact h
              have HW2 : Hid (∀ Z, Below W7.heap.size W7 Z → Calls Tryz.prog 14 #[.slice ba bs.length bc, .slice aa j ac, .int .i64 m, .bool true] Z fun e w' => e = .returned (.bool true) ∧ Below Z.heap.size Z w') := fun Z hZ => by
                obtain ⟨⟨e1, o1⟩, ⟨e2, o2⟩, _⟩ := HK.out Z hZ
                have h := within_any Z ba aa bs xs bc ac m e2 e1 o2 o1 H6.out.2.2.1 H5.out.2.2.1 HSQ.out.m64 in2
                rw [HNA.out] at h
                exact h
              have HWZ : Hid (∀ Z, Below W7.heap.size W7 Z → Below w.heap.size w Z) := fun Z hZ => (HK.out Z hZ).2.2.1
              clear hEa hOa hEb hOb hnf s1' s2' in1 in2 HT hwi HK H5 H6 HSQ HNA
              go_wp2_with fail
              refine Calls.mono (HW1.out wr hbi) ?_
              rintro e w8 ⟨rfl, hb8⟩
              have hb78 := hbi.trans (hb8.mono hbi.size)
              clear hb8 HW1 pc1
              go_wp2_with fail
              refine Calls.mono (HW2.out w8 hb78) ?_
              rintro e w9 ⟨rfl, hb9⟩
              have HB9 : Hid (Below w.heap.size w w9) := HWZ.out w9 (hb78.trans (hb9.mono hb78.size))
              clear hb9 HW2 HWZ
              go_wp2
              go_ret
              exact ⟨rfl, HB9.out⟩
        · have hbz' : (bz != 0) = true := by simpa using hbz
          go_wp2
          go_ret
          exact ⟨rfl, H6.out.2.2.2.2.2.1.alloc H6.out.2.2.2.2.2.1.size _⟩
      · have haz' : (az != 0) = true := by simpa using haz
        go_wp2
        go_ret
        exact ⟨rfl, H6.out.2.2.2.2.2.1.alloc H6.out.2.2.2.2.2.1.size _⟩
    · have hx' : (fx != 0) = true := by simpa using hx
      go_wp2_with fail
      go_ret
      exact ⟨rfl, by rw [HVV.out.1]; exact HVV.out.2.1⟩

end Go.Proofs.YtefnmbnakphhfadGreatDoor
