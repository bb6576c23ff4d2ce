/-
  Fences that do nothing are taken away, by the program.
-/
import Derived.Test.YtgofbkgfonlceacFDrop2
namespace Go.Proofs.Ytgofbkgfonlceac
open Go.RowKit

attribute [local go_sem ↓] appS_eq in
set_option maxRecDepth 100000 in
set_option maxHeartbeats 3200000 in
/-- Drop, of a program that may be. -/
theorem drop_may (w : World) (ca : Option Addr) (n cc : Nat) (wa : Option Addr) (words : List Int) (wc lk rg : Nat) (A : Nat → Option Addr) (L C : Nat → Nat) (X : Nat → Nat → Nat → Int) (hp : PIn w ca n A L C X) (hw : SIs w wa words) (hnil : wa = none → words = [] ∧ wc = 0) (hchk : chk n L X words.length lk rg = (0, 0, 0)) (hc : COk n L X words.length lk rg) :
    Calls Try.prog 8 #[prgV ca n cc wa words.length wc lk rg] w fun e w' => ∃ (B : Nat → Nat → Bool) (va : Option Addr) (vc : Nat) (ua : Option Addr) (uc : Nat), e = .returned (.tuple #[.agg #[.slice va n vc, .slice ua words.length uc, .int .i64 lk, .int .i64 rg], ints3 0 0 0]) ∧ Hid ((∀ t i, t < n → i < L t → (B t i = true ↔ Way (L t) (X t) i true)) ∧ (∀ V, Below w'.heap.size w' V → NewQ w n words lk rg (bLess (dropD B X) X) L (.returned (.agg #[.slice va n vc, .slice ua words.length uc, .int .i64 lk, .int .i64 rg])) V)) ∧ Below w.heap.size w w' := by
  obtain ⟨W3, hW3, hz3, hat⟩ := box3 w (.cells #[.slice ca n cc, .slice wa words.length wc, .int .i64 lk, .int .i64 rg] 25) (.cells #[nilV, nilV, .int .i64 0, .int .i64 0] 25) (.cells #[.int .i64 0, .int .i64 0, .int .i64 0] 29)
  have HCK : Hid (∀ V, Below w.heap.size w V → Calls Try.prog 18 #[.agg #[.slice ca n cc, .slice wa words.length wc, .int .i64 lk, .int .i64 rg]] V fun e w' => e = .returned (ints3 0 0 0) ∧ Below V.heap.size V w') := fun V hV => check_any ca n cc wa words.length wc lk rg A L C X 0 0 0 hchk V (hp.below hV)
  have HMW : Hid (∀ V t, Below w.heap.size w V → t < n → Calls Try.prog 23 #[.slice (A t) (L t) (C t)] V fun e w' => ∃ g K, e = .returned (.slice (some ⟨g, 0, none⟩) (L t) (L t)) ∧ w'.ownsRow V.heap.size 4 1 (.slice (some ⟨g, 0, none⟩) (L t) (L t)) (L t) (boolsV (wsL (L t) K)) ∧ (∀ i, i < L t → ((i, true) ∈ K ↔ Way (L t) (X t) i true)) ∧ Below V.heap.size V w') := fun V t hV ht =>
    mayWait_any V (A t) (L t) (C t) (X t) rg words.length lk (hc.L4 t ht) (fun i hi => (hp.below hV).ord t i ht hi) (fun i hi => hc.ord t i ht hi)
  have HRW : Hid (∀ V vb wv B, V.heap[w.heap.size]? = some (.cells #[.slice ca n cc, .slice wa words.length wc, .int .i64 lk, .int .i64 rg] 25) → V.cell? ⟨vb, 0, none⟩ = some wv → WsIn V wv n L B → Below w.heap.size w V → Calls Try.prog 24 #[.agg #[.slice ca n cc, .slice wa words.length wc, .int .i64 lk, .int .i64 rg], .func (.func 25) #[] #[.pointer (some ⟨w.heap.size, 0, none⟩), .pointer (some ⟨vb, 0, none⟩)]] V (NewQ V n words lk rg (bLess (dropD B X) X) L)) := fun V vb wv B hbx hvb hws hV => by
    have h := rewrite_any V ca n cc wa words wc lk rg 25 #[.pointer (some ⟨w.heap.size, 0, none⟩), .pointer (some ⟨vb, 0, none⟩)] A L C X (bLess (dropD B X) X) (hw.below hV) hnil hc.m64 (hp.below hV) (by have := hc.n4; omega) hc.L4 (fun t i _ _ => by unfold bLess bDrop; split <;> simp) (fun t i x ht hi hx => new_led hc ht hi (bLess_in _ X t i x hx)) (fun xs w => by kernel_rfl) (fun U t i hU ht hi =>
      drop1_any U w.heap.size vb ca n cc wa words.length wc lk rg wv A L C X B t i (hp.below (hV.trans (hU.mono hV.size))) ht hi ((hU.block _ (box_lt hbx)).trans hbx) ((hU.cell (lt_of_cell hvb)).trans hvb) (hws.below hU) hc.n4 (hc.L4 t ht))
    refine Calls.mono h ?_
    rintro e w' ⟨cv, uv, tv, rfl, h1, h2, h3, h4⟩
    obtain ⟨va, vc, rfl⟩ := fam_form h1
    obtain ⟨ua, uc, rfl⟩ := fam_form h3
    exact ⟨va, vc, ua, uc, tv, rfl, h1, h2, h3, h4⟩
  have HPR : Hid (PIn w ca n A L C X ∧ n ≤ 4) := ⟨hp, hc.n4⟩
  have HAT := Hid.out (p := Hid _) hat
  have HW3 := Hid.out (p := Hid _) hW3
  obtain ⟨mw, hmw⟩ : ∃ k, words.length = k := ⟨_, rfl⟩
  have HML : Hid (words.length = mw) := hmw
  rw [hmw] at HCK HRW HAT HW3 ⊢
  clear hp hchk hat hW3 hw hnil hc hmw
  go_enter Try.func8, Try.ntmps8
  go_wp2_with fail
  rw [HW3.out]
  refine Calls.mono (HCK.out _ (HAT.out _ (Below.refl _ _)).1) ?_
  rintro e w1 ⟨rfl, hb1⟩
  obtain ⟨hw1, b0, b1, b2⟩ := HAT.out w1 hb1
  have hl2 : w.heap.size + 1 + 1 < w1.heap.size := box_lt b2
  have p0 : ∀ o o', ((w1.alloc o).alloc o').cell? ⟨w.heap.size, 0, none⟩ = some (.slice ca n cc) := fun o o' => box_cell (box_later (box_later b0 o) o') rfl
  have H1 : Hid (Below W3.heap.size W3 w1 ∧ Below w.heap.size w w1) := ⟨hb1, hw1⟩
  have HBX0 : Hid (∀ V, Below w1.heap.size w1 V → Below w.heap.size w V ∧ V.heap[w.heap.size]? = some (.cells #[.slice ca n cc, .slice wa mw wc, .int .i64 lk, .int .i64 rg] 25)) := fun V hV => ⟨hw1.trans (hV.mono hw1.size), (hV.block _ (box_lt b0)).trans b0⟩
  obtain ⟨FB, hFB⟩ : ∃ o : Obj, o = .cells #[.int .i64 0, .int .i64 0, .int .i64 0] 29 := ⟨_, rfl⟩
  obtain ⟨VB, hVB⟩ : ∃ o : Obj, o = .cells #[nilV] 35 := ⟨_, rfl⟩
  have hb12 : Below w1.heap.size w1 ((w1.alloc FB).alloc VB) := ((Below.refl _ _).alloc (Nat.le_refl _) _).alloc (by simp) _
  have hvb : ((w1.alloc FB).alloc VB).heap[w1.heap.size + 1]? = some VB := by have := heap_alloc_new (w1.alloc FB) VB; simpa using this
  obtain ⟨W2, hW2⟩ : ∃ V, (w1.alloc FB).alloc VB = V := ⟨_, rfl⟩
  rw [hW2] at hb12 hvb
  have HW2 : Hid ((w1.alloc (.cells #[.int .i64 0, .int .i64 0, .int .i64 0] 29)).alloc (.cells #[nilV] 35) = W2) := by rw [← hW2, hFB, hVB]; exact rfl
  rw [hVB] at hvb
  have HD0 : Hid (DwI w1 (w1.heap.size + 1) L X 0 W2 nilV []) := ⟨hb12, by omega, hvb, World.ownsRow_nil _ _ _ _, by simp [Value.ownBlock], fun t ht => absurd ht (by omega)⟩
  clear hb1 hw1 b0 b1 b2 HW3 HCK hb12 hvb hW2 hFB hVB
  go_wp2_with fail
  rw [HW2.out]
  clear p0 HW2
  go_loopw [19] (fun i wr => ∃ (k : Nat) (va : Option Addr) (vc : Nat) (tv : List Value), k ≤ n ∧ i = .int .i64 k ∧ Hid (DwI w1 (w1.heap.size + 1) L X k wr (.slice va k vc) tv)) (fun i _ => n - (intOf i).toNat)
  case atStart => exact ⟨0, none, 0, [], Nat.zero_le _, rfl, HD0⟩
  case round =>
    obtain ⟨k, va, vc, tv, hk, rfl, HL⟩ := hrel
    clear HD0
    have hn4 := HPR.out.2
    by_cases hlt : k < n
    · have hwr := (HBX0.out wr HL.out.low).1
      obtain ⟨cb, co, rfl, hcell⟩ := (HPR.out.1.below hwr).code k hlt
      obtain ⟨l, hl⟩ : ∃ l, L k = l := ⟨_, rfl⟩
      obtain ⟨ak, hak⟩ : ∃ a, A k = a := ⟨_, rfl⟩
      obtain ⟨ck, hck⟩ : ∃ c, C k = c := ⟨_, rfl⟩
      have HCW : Hid (Calls Try.prog 23 #[.slice ak l ck] wr.drew fun e w' => ∃ g0 g cap w3, e = .returned (.slice (some ⟨g0, 0, none⟩) l l) ∧ w'.cell? ⟨w1.heap.size + 1, 0, none⟩ = some (.slice va k vc) ∧ (AppS #[35, 35] 35 #[.slice va k vc, .slice (some ⟨w'.heap.size, 0, none⟩) 1 1]).run Try.prog (w'.alloc (.cells #[.slice (some ⟨g0, 0, none⟩) l l] 55)) = .ok (.slice (some ⟨g, 0, none⟩) (k + 1) cap) w3 ∧ w3.cell? ⟨w1.heap.size + 1, 0, none⟩ = some (.slice va k vc) ∧ w3.frozen? ⟨w1.heap.size + 1, 0, none⟩ = false ∧ Hid (∃ tv', DwI w1 (w1.heap.size + 1) L X (k + 1) (w3.setCell ⟨w1.heap.size + 1, 0, none⟩ (.slice (some ⟨g, 0, none⟩) (k + 1) cap)) (.slice (some ⟨g, 0, none⟩) (k + 1) cap) tv')) := by
        have h := HMW.out wr.drew k hwr.drew hlt
        rw [hl, hak, hck] at h
        refine Calls.mono h ?_
        rintro e w' ⟨g0, K0, rfl, hr, hK, hb⟩
        have hbw : Below wr.heap.size wr w' := (Below.refl _ _).drew.trans hb
        have hr' : w'.ownsRow wr.heap.size 4 1 (.slice (some ⟨g0, 0, none⟩) (L k) (L k)) (L k) (boolsV (wsL (L k) K0)) := by rw [hl]; exact hr
        obtain ⟨g, cap, w3, r1, r2, r3⟩ := HL.out.push hbw hr' (by rw [hl]; exact hK) (by have := HPR.out.2; omega)
        rw [hl] at r1 r3
        exact ⟨g0, g, cap, w3, rfl, box_cell ((hbw.block _ (box_lt HL.out.box)).trans HL.out.box) rfl, r1, box_cell r2 rfl, box_free r2, _, r3⟩
      rw [hl, hak, hck] at hcell
      have v0 : wr.cell? ⟨w1.heap.size + 1, 0, none⟩ = some (.slice va k vc) := box_cell HL.out.box rfl
      clear hl hak hck hwr
      go_wp2
      go_region_with (go_at_call 23; refine Calls.mono HCW.out ?_; rintro e w5 ⟨g0, g, cap, w3, rfl, j0, hrun3, j1, jf, HR⟩; have j0u := cell_up j0)
      · go_wp2
        go_roundw
        case rel => obtain ⟨tv', hD⟩ := HR.out; exact ⟨k + 1, _, _, tv', by omega, by go_num, hD⟩
        case measure => simp [intOf]; omega
      · go_wp2
        go_roundw
        case rel => obtain ⟨tv', hD⟩ := HR.out; exact ⟨k + 1, _, _, tv', by omega, by go_num, hD⟩
        case measure => simp [intOf]; omega
      · go_wp2
        go_roundw
        case rel => obtain ⟨tv', hD⟩ := HR.out; exact ⟨k + 1, _, _, tv', by omega, by go_num, hD⟩
        case measure => simp [intOf]; omega
    · have hkn : k = n := by omega
      subst hkn
      obtain ⟨hwr, hbx⟩ := HBX0.out wr HL.out.low
      have x0 := box_cell (i := 0) hbx rfl
      have x1 := box_cell (i := 1) hbx rfl
      have x2 := box_cell (i := 2) hbx rfl
      have x3 := box_cell (i := 3) hbx rfl
      obtain ⟨B, hB, hBW⟩ := HL.out.done
      have h5 := HRW.out wr (w1.heap.size + 1) (.slice va k vc) B hbx (box_cell HL.out.box rfl) hB hwr
      have H5 := Hid.out (p := Hid _) h5
      have HBW := Hid.out (p := Hid _) hBW
      have HWR : Hid (Below w.heap.size w wr) := hwr
      clear h5 hB hBW hbx hwr
      go_wp2_with fail
      refine Calls.mono H5.out ?_
      rintro e w6 ⟨va6, vc6, ua6, uc6, tv6, rfl, h1, h2, h3, h4⟩
      have hNQ : NewQ wr k words lk rg (bLess (dropD B X) X) L (.returned (.agg #[.slice va6 k vc6, .slice ua6 words.length uc6, .int .i64 lk, .int .i64 rg])) w6 := ⟨va6, vc6, ua6, uc6, tv6, rfl, h1, h2, h3, h4⟩
      rw [HML.out] at hNQ ⊢
      have hb36 : Below W3.heap.size W3 w6 := H1.out.1.trans ((HL.out.low.trans (h4.mono HL.out.low.size)).mono H1.out.1.size)
      obtain ⟨hw6, _, b1, b2⟩ := HAT.out w6 hb36
      have H6 : Hid (NewQ wr k words lk rg (bLess (dropD B X) X) L (.returned (.agg #[.slice va6 k vc6, .slice ua6 mw uc6, .int .i64 lk, .int .i64 rg])) w6 ∧ Below w.heap.size w w6) := ⟨hNQ, hw6⟩
      have hs1 : w1.heap.size ≤ wr.heap.size := HL.out.low.size
      have hs6 : wr.heap.size ≤ w6.heap.size := h4.size
      have t0 : ∀ o, (w6.alloc o).cell? ⟨w.heap.size + 1, 0, none⟩ = some nilV := fun o => box_cell (box_later b1 o) rfl
      have t1 : ∀ o, (w6.alloc o).cell? ⟨w.heap.size + 1, 1, none⟩ = some nilV := fun o => box_cell (box_later b1 o) rfl
      have t2 : ∀ o, (w6.alloc o).cell? ⟨w.heap.size + 1, 2, none⟩ = some (.int .i64 0) := fun o => box_cell (box_later b1 o) rfl
      have t3 : ∀ o, (w6.alloc o).cell? ⟨w.heap.size + 1, 3, none⟩ = some (.int .i64 0) := fun o => box_cell (box_later b1 o) rfl
      have u0 : ∀ o, (w6.alloc o).cell? ⟨w.heap.size + 1 + 1, 0, none⟩ = some (.int .i64 0) := fun o => box_cell (box_later b2 o) rfl
      have u1 : ∀ o, (w6.alloc o).cell? ⟨w.heap.size + 1 + 1, 1, none⟩ = some (.int .i64 0) := fun o => box_cell (box_later b2 o) rfl
      have u2 : ∀ o, (w6.alloc o).cell? ⟨w.heap.size + 1 + 1, 2, none⟩ = some (.int .i64 0) := fun o => box_cell (box_later b2 o) rfl
      have tf : ∀ o i, (w6.alloc o).frozen? ⟨w.heap.size + 1, i, none⟩ = false := fun o i => box_free (box_later b1 o)
      have uf : ∀ o i, (w6.alloc o).frozen? ⟨w.heap.size + 1 + 1, i, none⟩ = false := fun o i => box_free (box_later b2 o)
      have hl6 : w.heap.size + 1 + 1 < w6.heap.size := box_lt b2
      have n1 : w6.heap.size ≠ w.heap.size + 1 := by omega
      have n2 : w6.heap.size ≠ w.heap.size + 1 + 1 := by omega
      have n3 : w.heap.size + 1 ≠ w6.heap.size := by omega
      have n4 : w.heap.size + 1 + 1 ≠ w6.heap.size := by omega
      clear hNQ hw6 hb36 b1 b2 h1 h2 h3 h4 H5 HRW HMW x0 x1 x2 x3
      go_wp2
      refine bodyPost_ret (v := .tuple #[.agg #[.slice va6 k vc6, .slice ua6 mw uc6, .int .i64 lk, .int .i64 rg], ints3 0 0 0]) (by simp [results, Try.results8, go_sem, t0, t1, t2, t3, u0, u1, u2]) rfl ?_
      have hBq : Below w.heap.size w (w6.alloc (.cells #[.slice va6 k vc6, .slice ua6 mw uc6, .int .i64 lk, .int .i64 rg] 25)) := H6.out.2.alloc H6.out.2.size _
      have hbn := below7n hBq (.slice va6 k vc6) (.slice ua6 mw uc6) (.int .i64 lk) (.int .i64 rg) (.int .i64 0) (.int .i64 0) (.int .i64 0)
      refine ⟨B, va6, vc6, ua6, uc6, rfl, ⟨HBW.out, fun V hV => NewQ.below ?_ hV⟩, hbn⟩
      refine H6.out.1.far (fun g hg1 hg2 => ?_) HWR.out.size hbn
      rw [far7 (by omega) (by omega)]
      exact ((Below.refl w6.heap.size w6).alloc (Nat.le_refl _) _).block g hg2

set_option maxRecDepth 100000 in
set_option maxHeartbeats 1600000 in
/-- Drop, of a program that may not be. -/
theorem drop_no (w : World) (ca : Option Addr) (n cc : Nat) (wa : Option Addr) (m wc : Nat) (lk rg x y z : Int) (A : Nat → Option Addr) (L C : Nat → Nat) (X : Nat → Nat → Nat → Int) (hp : PIn w ca n A L C X) (hchk : chk n L X m lk rg = (x, y, z)) (hx : x ≠ 0) :
    Calls Try.prog 8 #[prgV ca n cc wa m wc lk rg] w fun e w' => e = .returned (.tuple #[noP, ints3 x y z]) ∧ Below w.heap.size w w' := by
  obtain ⟨W3, hW3, hz3, hat⟩ := box3 w (.cells #[.slice ca n cc, .slice wa m wc, .int .i64 lk, .int .i64 rg] 25) (.cells #[nilV, nilV, .int .i64 0, .int .i64 0] 25) (.cells #[.int .i64 0, .int .i64 0, .int .i64 0] 29)
  have HCK : Hid (∀ V, Below w.heap.size w V → Calls Try.prog 18 #[.agg #[.slice ca n cc, .slice wa m wc, .int .i64 lk, .int .i64 rg]] V fun e w' => e = .returned (ints3 x y z) ∧ Below V.heap.size V w') := fun V hV => check_any ca n cc wa m wc lk rg A L C X x y z hchk V (hp.below hV)
  have hx' : (x != 0) = true := by simpa using hx
  have HAT := Hid.out (p := Hid _) hat
  have HW3 := Hid.out (p := Hid _) hW3
  clear hp hchk hx hat hW3
  go_enter Try.func8, Try.ntmps8
  go_wp2_with fail
  rw [HW3.out]
  refine Calls.mono (HCK.out _ (HAT.out _ (Below.refl _ _)).1) ?_
  rintro e w1 ⟨rfl, hb1⟩
  obtain ⟨hw1, b0, b1, b2⟩ := HAT.out w1 hb1
  have t0 : ∀ o, (w1.alloc o).cell? ⟨w.heap.size + 1, 0, none⟩ = some nilV := fun o => box_cell (box_later b1 o) rfl
  have t1 : ∀ o, (w1.alloc o).cell? ⟨w.heap.size + 1, 1, none⟩ = some nilV := fun o => box_cell (box_later b1 o) rfl
  have t2 : ∀ o, (w1.alloc o).cell? ⟨w.heap.size + 1, 2, none⟩ = some (.int .i64 0) := fun o => box_cell (box_later b1 o) rfl
  have t3 : ∀ o, (w1.alloc o).cell? ⟨w.heap.size + 1, 3, none⟩ = some (.int .i64 0) := fun o => box_cell (box_later b1 o) rfl
  have u0 : ∀ o, (w1.alloc o).cell? ⟨w.heap.size + 1 + 1, 0, none⟩ = some (.int .i64 0) := fun o => box_cell (box_later b2 o) rfl
  have u1 : ∀ o, (w1.alloc o).cell? ⟨w.heap.size + 1 + 1, 1, none⟩ = some (.int .i64 0) := fun o => box_cell (box_later b2 o) rfl
  have u2 : ∀ o, (w1.alloc o).cell? ⟨w.heap.size + 1 + 1, 2, none⟩ = some (.int .i64 0) := fun o => box_cell (box_later b2 o) rfl
  have tf : ∀ o i, (w1.alloc o).frozen? ⟨w.heap.size + 1, i, none⟩ = false := fun o i => box_free (box_later b1 o)
  have uf : ∀ o i, (w1.alloc o).frozen? ⟨w.heap.size + 1 + 1, i, none⟩ = false := fun o i => box_free (box_later b2 o)
  have hl2 : w.heap.size + 1 + 1 < w1.heap.size := box_lt b2
  have n1 : w1.heap.size ≠ w.heap.size + 1 := by omega
  have n2 : w1.heap.size ≠ w.heap.size + 1 + 1 := by omega
  have n3 : w.heap.size + 1 ≠ w1.heap.size := by omega
  have n4 : w.heap.size + 1 + 1 ≠ w1.heap.size := by omega
  have HB1 := Hid.out (p := Hid _) hw1
  clear hw1 hb1 b0 b1 b2 HW3 HAT HCK
  go_wp2_with fail
  go_region
  all_goals go_wp2
  have hB : Below w.heap.size w (w1.alloc (.cells #[.int .i64 x, .int .i64 y, .int .i64 z] 29)) := HB1.out.alloc HB1.out.size _
  all_goals refine bodyPost_ret (v := .tuple #[noP, ints3 x y z]) (by simp [results, Try.results8, go_sem, t0, t1, t2, t3, u0, u1, u2]) rfl ⟨rfl, ?_⟩
  all_goals exact below7 hB _ _ _ _ _ _ _

end Go.Proofs.Ytgofbkgfonlceac
