/-
  The program with colours for registers: by the document.
-/
import Derived.Test.YtocfocjnnjdcgaaDoorAlpKa
import Derived.Test.YtocfocjnnjdcgaaDoorCOkP
import Derived.Deep.LoopGhost
namespace Go.Proofs.YtocfocjnnjdcgaaDoor
open Go.RowKit

attribute [local go_sem ↓] appS_eq in
set_option maxRecDepth 100000 in
set_option maxHeartbeats 6400000 in
theorem rapply_may (w : World) (ca : Option Addr) (n cc : Nat) (wa : Option Addr) (words : List Int) (wc lk rg : Nat) (A : Nat → Option Addr) (L C : Nat → Nat) (X : Nat → Nat → Nat → Int) (ka : Option Addr) (kc : Nat) (K : List (List Int)) (x y z : Int) (hp : PIn w ca n A L C X) (hw : SIs w wa words) (hn0 : 0 < n) (hc : COk n L X words.length lk rg) (hK : CIn w ka K) (hyes : ColP K n L X rg)
    (hq : chk n (lenR (bPnt words.length rg K X) L) (numR (bPnt words.length rg K X) L) (words.length + spT K rg n) lk 8 = (x, y, z)) :
    Calls Tryd.prog 21 #[prgV ca n cc wa words.length wc lk rg, .slice ka n kc] w fun e w' => if x = 0 then ∃ (va : Option Addr) (vc : Nat) (ua : Option Addr) (uc : Nat), e = .returned (.tuple #[.agg #[.slice va n vc, .slice ua (words.length + spT K rg n) uc, .int .i64 lk, .int .i64 8], ints3 0 0 0]) ∧ Hid (∀ V, Below w'.heap.size w' V → NewQ w n (words ++ List.replicate (spT K rg n) 0) lk 8 (bPnt words.length rg K X) L (.returned (.agg #[.slice va n vc, .slice ua (words.length + spT K rg n) uc, .int .i64 lk, .int .i64 8])) V) ∧ Below w.heap.size w w' else e = .returned (.tuple #[zeP, ints3 x y z]) ∧ Below w.heap.size w w' := by
  obtain ⟨PB, hPB⟩ : ∃ o : Obj, o = .cells #[.slice ca n cc, .slice wa words.length wc, .int .i64 lk, .int .i64 rg] 25 := ⟨_, rfl⟩
  obtain ⟨RP, hRP⟩ : ∃ o : Obj, o = .cells #[nilV, nilV, .int .i64 0, .int .i64 0] 25 := ⟨_, rfl⟩
  obtain ⟨FB, hFB⟩ : ∃ o : Obj, o = .cells #[.int .i64 0, .int .i64 0, .int .i64 0] 30 := ⟨_, rfl⟩
  obtain ⟨b, hb⟩ : ∃ b : Nat → Nat → List I4, b = bPnt words.length rg K X := ⟨_, rfl⟩
  obtain ⟨g1, cap1, w1, hrun1, hq1, hR1⟩ := new_start (w.alloc PB) RP FB wa words wc lk 8 (hw.below (below_one w PB)) hc.m64 b L
  obtain ⟨S, hS, hSs, hat⟩ := box3 w PB RP FB
  rw [hS] at hR1
  rw [hPB, hRP, hFB] at hat
  have HAT := Hid.out (p := Hid _) hat
  have HPR : Hid (PIn w ca n A L C X ∧ COk n L X words.length lk rg ∧ CIn w ka K ∧ ColP K n L X rg) := ⟨hp, hc, hK, hyes⟩
  have HR1 := Hid.out (p := Hid _) hR1
  have hn4 := hc.n4
  have hrg2 := hc.rg2
  have hm64 := hc.m64
  have hsA : (w.alloc PB).heap.size = w.heap.size + 1 := by simp
  rw [hsA] at hrun1 hq1 HR1
  have c1 := box_cell (i := 1) hq1 rfl
  have cf : ∀ i, w1.frozen? ⟨w.heap.size + 1 + 1 + 1, i, none⟩ = false := fun i => box_free hq1
  obtain ⟨mw, hmw⟩ : ∃ k, words.length = k := ⟨_, rfl⟩
  have HML : Hid (words.length = mw) := hmw
  rw [hmw] at HAT HR1 hq hb hm64
  rw [hPB, hRP, hFB, hmw] at hrun1
  simp only [nilV] at hrun1 c1
  rw [hmw, ← hb]
  rw [← hb] at hq
  obtain ⟨sn, hsn⟩ : ∃ q, spT K rg n = q := ⟨_, rfl⟩
  rw [hsn] at hq ⊢
  have HSN := Hid.out (p := Hid _) hsn
  have HQQ := Hid.out (p := Hid _) hq
  have HBB := Hid.out (p := Hid _) hb
  have HSS := Hid.out (p := Hid _) (And.intro hS hSs)
  clear hq hsn hb hw hc hK hyes hp hat hR1 hq1 hmw hsA hS hSs hPB hRP hFB
  go_enter Tryd.func21, Tryd.ntmps21
  go_wp2
  obtain ⟨W, hW⟩ : ∃ V, w1.setCell ⟨w.heap.size + 1 + 1 + 1, 1, none⟩ (.slice (some ⟨g1, 0, none⟩) mw cap1) = V := ⟨_, rfl⟩
  rw [hW] at HR1
  rw [hW]
  clear hW hrun1 c1 cf
  obtain ⟨qb, hqb⟩ : ∃ q, w.heap.size + 1 + 1 + 1 = q := ⟨_, rfl⟩
  have HQB : Hid (w.heap.size + 1 + 1 + 1 = qb) := hqb
  rw [hqb] at HR1
  rw [hqb]
  clear hqb
  have HR1' : Hid (∃ ua uc, Value.slice (some ⟨g1, 0, none⟩) mw cap1 = .slice ua (mw + spT K rg 0) uc ∧ RwI S qb (.slice ua (mw + spT K rg 0) uc) (words ++ List.replicate (spT K rg 0) 0) lk 8 b L 0 W nilV []) := ⟨_, _, rfl, by simpa [spT] using HR1.out⟩
  go_loopg [7] (n + 1) (fun gk i wr => ∃ t : Nat, t + gk = n + 1 ∧ t ≤ n ∧ i = .int .i64 t ∧ Hid (∃ ua uc, RwI S qb (.slice ua (mw + spT K rg t) uc) (words ++ List.replicate (spT K rg t) 0) lk 8 b L 0 wr nilV []))
  case atStart => 
    obtain ⟨ua, uc, -, h⟩ := HR1'.out
    exact ⟨0, by omega, Nat.zero_le _, rfl, ua, uc, h⟩
  case round =>
    obtain ⟨t, hgt, ht, rfl, HI⟩ := hrel
    have HGT := Hid.out (p := Hid _) hgt
    clear hgt HR1 HR1'
    obtain ⟨ua0, uc0, hR0⟩ := HI.out
    obtain ⟨hwr, b0, b1, b2⟩ := HAT.out wr hR0.low
    have p0 := box_cell (i := 0) b0 rfl
    by_cases htn : t < n
    · have htI : (t : Int) < (n : Int) := by omega
      obtain ⟨kb, ko, ra, rc, rfl, hkc0, hks0⟩ := HPR.out.2.2.1 t (by rw [HPR.out.2.2.2.1]; exact htn)
      obtain ⟨k, hk⟩ : ∃ k, K.getD t [] = k := ⟨_, rfl⟩
      have hkl : k.length = rg := by rw [← hk]; exact (HPR.out.2.2.2.2 t htn).1
      rw [hk, hkl] at hkc0
      rw [hk] at hks0
      have HKT := Hid.out (p := Hid _) (And.intro hk (And.intro hkl (And.intro hkc0 hks0)))
      obtain ⟨sp, hsp⟩ : ∃ q, spT K rg t = q := ⟨_, rfl⟩
      have hspb : sp ≤ 600 := by
        have h1 := spT_le K rg t
        have h2 : t * rg ≤ 3 * 200 := Nat.mul_le_mul (by omega) hrg2
        omega
      have HSP := Hid.out (p := Hid _) hsp
      rw [hsp] at HI
      clear hk hkl hkc0 hks0 hsp b0 b1 b2 hwr hR0
      go_wp2_with fail
      go_loopg [8] (rg + 1) (fun gr i wi => ∃ r : Nat, r + gr = rg + 1 ∧ r ≤ rg ∧ i = .int .i64 r ∧ Hid (∃ ua uc, RwI S qb (.slice ua (mw + (sp + spN k r)) uc) (words ++ List.replicate (sp + spN k r) 0) lk 8 b L 0 wi nilV []))
      case atStart => exact ⟨0, by omega, Nat.zero_le _, rfl, HI.out⟩
      case round =>
        clear HI p0
        obtain ⟨r, hgr, hr, rfl, HI⟩ := hrel
        have HGR := Hid.out (p := Hid _) hgr
        clear hgr
        obtain ⟨ua, uc, hR⟩ := HI.out
        obtain ⟨hwr, b0, b1, b2⟩ := HAT.out wr hR.low
        have p3 := box_cell (i := 3) b0 rfl
        by_cases hrg : r < rg
        · have hrI : (r : Int) < (rg : Int) := by omega
          have hkc := (hwr.cell (lt_of_cell HKT.out.2.2.1)).trans HKT.out.2.2.1
          obtain ⟨vb, vo, rfl, hv0⟩ := HKT.out.2.2.2 r (by rw [HKT.out.2.1]; exact hrg)
          have hv := (hwr.cell (lt_of_cell hv0)).trans hv0
          obtain ⟨v, hvv⟩ : ∃ v, k.getD r 0 = v := ⟨_, rfl⟩
          rw [hvv] at hv
          have hsn := spN_le k r
          by_cases hneg : v < 0
          · have hwl : (words ++ List.replicate (sp + spN k r) 0).length = mw + (sp + spN k r) := by rw [List.length_append, List.length_replicate, HML.out]
            obtain ⟨g3, cap3, w3, hrun3, hbx3, hR3⟩ := hR.word 0 (by rw [hwl]; omega)
            rw [hwl] at hrun3 hR3
            have x1 := box_cell (i := 1) hR.box rfl
            have x1u := fun o => cell_up x1 o
            have x3 := box_cell (i := 1) hbx3 rfl
            have xf : w3.frozen? ⟨qb, 1, none⟩ = false := box_free hbx3
            rw [List.append_assoc, ← List.replicate_succ', show mw + (sp + spN k r) + 1 = mw + (sp + spN k (r + 1)) by rw [spN_put (by rw [hvv]; exact hneg)]; omega, show sp + spN k r + 1 = sp + spN k (r + 1) by rw [spN_put (by rw [hvv]; exact hneg)]; omega] at hR3
            rw [show mw + (sp + spN k r) + 1 = mw + (sp + spN k (r + 1)) by rw [spN_put (by rw [hvv]; exact hneg)]; omega] at hrun3
            have HR3 : Hid (∃ ua uc, RwI S qb (.slice ua (mw + (sp + spN k (r + 1))) uc) (words ++ List.replicate (sp + spN k (r + 1)) 0) lk 8 b L 0 (w3.setCell ⟨qb, 1, none⟩ (.slice (some ⟨g3, 0, none⟩) (mw + (sp + spN k (r + 1))) cap3)) nilV []) := ⟨_, _, hR3⟩
            clear hR3 hbx3 hwl hR hwr b0 b1 b2 hv0 hvv hsn
            go_wp2_with fail
            go_roundg (rg - r)
            case measure => have := HGR.out; omega
            case rel => exact ⟨r + 1, by omega, by omega, by go_num, HR3.out⟩
          · have hne : decide (v < 0) = false := decide_eq_false hneg
            rw [← spN_skip (by rw [hvv]; exact hneg)] at hR
            have HR3 : Hid (∃ ua uc, RwI S qb (.slice ua (mw + (sp + spN k (r + 1))) uc) (words ++ List.replicate (sp + spN k (r + 1)) 0) lk 8 b L 0 wr nilV []) := ⟨_, _, hR⟩
            clear hR hwr b0 b1 b2 hv0 hvv hsn
            go_wp2_with fail
            go_roundg (rg - r)
            case measure => have := HGR.out; omega
            case rel => exact ⟨r + 1, by omega, by omega, by go_num, HR3.out⟩
        · obtain rfl : r = rg := by omega
          go_wp2_with fail
          go_roundg (n - t)
          case measure => have := HGT.out; omega
          case rel =>
            refine ⟨t + 1, by omega, by omega, by go_num, ua, uc, ?_⟩
            rw [spT, HSP.out, HKT.out.1]
            exact hR
    · obtain rfl : t = n := by omega
      rw [HSN.out] at hR0
      have hbx := hR0.box
      have y1 := box_cell (i := 1) hbx rfl
      by_cases hbig : 64 < mw + sn
      · have hbI : (64 : Int) < (mw : Int) + (sn : Int) := by omega
        have hbN : 64 < mw + sn := hbig
        have hq1 : (x, y, z) = (1, 0, 0) := by
          rw [← HQQ.out]
          exact bPnt_big _ _ (by omega) hn4 hbig
        simp only [Prod.mk.injEq] at hq1
        obtain ⟨rfl, rfl, rfl⟩ := hq1
        obtain ⟨V, hV, ⟨r0, r1, r2, r3, r4, r5, r6⟩, hlow, hfar⟩ := res7 hwr b1 b2 nilV nilV (.int .i64 0) (.int .i64 0) (.int .i64 1) (.int .i64 0) (.int .i64 0)
        have t0 := box_cell (i := 0) b1 rfl
        have t1 := box_cell (i := 1) b1 rfl
        have t2 := box_cell (i := 2) b1 rfl
        have t3 := box_cell (i := 3) b1 rfl
        have u0 := box_cell (i := 0) b2 rfl
        have u1 := box_cell (i := 1) b2 rfl
        have u2 := box_cell (i := 2) b2 rfl
        have tf : ∀ i, wr.frozen? ⟨w.heap.size + 1, i, none⟩ = false := fun i => box_free b1
        have uf : ∀ i, wr.frozen? ⟨w.heap.size + 1 + 1, i, none⟩ = false := fun i => box_free b2
        have HV := Hid.out (p := Hid _) (And.intro hV hlow)
        clear hV hlow hfar hbx b0 b1 b2 hwr hR0 hbig
        go_wp2_with fail
        rw [HV.out.1]
        exact bodyPost_ret (v := .tuple #[zeP, ints3 1 0 0]) (by simp [results, Tryd.results21, go_sem, r0, r1, r2, r3, r4, r5, r6]) rfl ⟨rfl, HV.out.2⟩
      · have hft : firstThread (longR (lenR b L)) t 0 = (x, y, z) := by
          rw [← HQQ.out, HBB.out, ← HSN.out, ← HML.out]
          refine (bPnt_chk HPR.out.2.1 hn0 (fun t ht r hr => ((HPR.out.2.2.2.2 t ht).2 r hr).2.1) ?_).symm
          rw [HML.out, HSN.out]; omega
        have HFT := Hid.out (p := Hid _) hft
        have hbI : decide ((64 : Int) < (mw : Int) + (sn : Int)) = false := decide_eq_false (by omega)
        have hbI2 : decide (64 < mw + sn) = false := decide_eq_false hbig
        have h64 : mw + sn ≤ 64 := by omega
        have q1 := box_cell (i := 1) b0 rfl
        have HR0 : Hid (∃ va vc tv, Value.slice va 0 vc = nilV ∧ RwI S qb (.slice ua0 (mw + sn) uc0) (words ++ List.replicate sn 0) lk 8 b L 0 wr (.slice va 0 vc) tv) := ⟨none, 0, [], rfl, hR0⟩
        clear hbx b0 b1 b2 hwr hR0 hbig hft
        go_wp2_with fail
        clear hbI hbI2 y1 p0 q1 HI
        go_loopg [9, 10] (t + 1) (fun gk wv iv wi => ∃ k wn : Nat, k + gk = t + 1 ∧ k ≤ t ∧ iv = .int .i64 k ∧ wv = .int .i64 wn ∧ wn ≤ 2000 ∧ Hid (wn = mw + spT K rg k ∧ ∃ va vc tv, RwI S qb (.slice ua0 (mw + sn) uc0) (words ++ List.replicate sn 0) lk 8 b L k wi (.slice va k vc) tv ∧ ∀ i, i < k → lenR b L i ≤ 400))
        case atStart =>
          obtain ⟨va, vc, tv, -, h⟩ := HR0.out
          exact ⟨0, mw, by omega, Nat.zero_le _, rfl, rfl, by omega, by simp [spT], va, vc, tv, h, fun i hi => absurd hi (Nat.not_lt_zero _)⟩
        case round =>
          clear HR0
          obtain ⟨k, wn, hgk, hk, rfl, rfl, hwn, HL⟩ := hrel
          have HGK := Hid.out (p := Hid _) hgk
          clear hgk
          obtain ⟨hwe, va, vc, tv, hRk, hle⟩ := HL.out
          have HRK := Hid.out (p := Hid _) hRk
          have HLE := Hid.out (p := Hid _) hle
          have HWE := Hid.out (p := Hid _) hwe
          clear HL hle hwe
          obtain ⟨hwr, b0, b1, b2⟩ := HAT.out wr hRk.low
          have p0 := box_cell (i := 0) b0 rfl
          by_cases hkt : k < t
          · have hkI : (k : Int) < (t : Int) := by omega
            obtain ⟨cb, co, rfl, hcell⟩ := HPR.out.1.code k hkt
            obtain ⟨kb, ko, ra, rc, rfl, hkc0, hks0⟩ := HPR.out.2.2.1 k (by rw [HPR.out.2.2.2.1]; exact hkt)
            obtain ⟨kk, hkk⟩ : ∃ q, K.getD k [] = q := ⟨_, rfl⟩
            have hkl : kk.length = rg := by rw [← hkk]; exact (HPR.out.2.2.2.2 k hkt).1
            rw [hkk, hkl] at hkc0
            rw [hkk] at hks0
            have HKT := Hid.out (p := Hid _) (And.intro hkk (And.intro hkl (And.intro hkc0 hks0)))
            have HCE := Hid.out (p := Hid _) hcell
            obtain ⟨l, hl⟩ : ∃ l, L k = l := ⟨_, rfl⟩
            have hl4 : l ≤ 1000 := by rw [← hl]; exact HPR.out.2.1.L4 k hkt
            have HLK : Hid (L k = l) := hl
            obtain ⟨ak, hak⟩ : ∃ a, A k = a := ⟨_, rfl⟩
            have HAK : Hid (A k = ak) := hak
            obtain ⟨ck, hck⟩ : ∃ a, C k = a := ⟨_, rfl⟩
            have HCK : Hid (C k = ck) := hck
            have HAT2 : Hid (∀ V, Below wr.heap.size wr V → Below w.heap.size w V ∧ V.heap[w.heap.size]? = some (.cells #[.slice (some ⟨cb, co, none⟩) t cc, .slice wa mw wc, .int .i64 lk, .int .i64 rg] 25) ∧ V.heap[w.heap.size + 1]? = some (.cells #[nilV, nilV, .int .i64 0, .int .i64 0] 25) ∧ V.heap[w.heap.size + 1 + 1]? = some (.cells #[.int .i64 0, .int .i64 0, .int .i64 0] 30)) := fun V hV => HAT.out V (HRK.out.low.trans (hV.mono HRK.out.low.size))
            have p3 := box_cell (i := 3) b0 rfl
            obtain ⟨w5, hms, hrow5, hb5⟩ := ws_start wr (wdT mw K rg k) kk rg (by omega)
            have H5 : Hid (w5.ownsRow wr.heap.size 3 1 (.slice (some ⟨wr.heap.size, 0, none⟩) rg rg) rg (intsV (wsL (wdT mw K rg k) kk rg 0)) ∧ Below wr.heap.size wr w5) := ⟨hrow5, hb5⟩
            clear hkk hkl hkc0 hks0 hcell hl hak hck b0 b1 b2 hwr hRk hrow5 hb5 HAT
            go_wp2_with fail
            clear hms p0 p3
            obtain ⟨u0, rfl⟩ : ∃ V, V = wr := ⟨_, rfl⟩
            go_loopg [9, 12] (rg + 1) (fun gr wv iv wi => ∃ r wm : Nat, r + gr = rg + 1 ∧ r ≤ rg ∧ iv = .int .i64 r ∧ wv = .int .i64 wm ∧ wm ≤ wn + r ∧ Hid (wm = wn + spN kk r ∧ wi.ownsRow u0.heap.size 3 1 (.slice (some ⟨u0.heap.size, 0, none⟩) rg rg) rg (intsV (wsL (wdT mw K rg k) kk rg r)) ∧ Below u0.heap.size u0 wi))
            case atStart => exact ⟨0, wn, by omega, Nat.zero_le _, rfl, rfl, by omega, by simp [spN], H5.out⟩
            case round =>
              clear H5
              obtain ⟨r, wm, hgr, hr, rfl, rfl, hwm, HI⟩ := hrel
              have HGR := Hid.out (p := Hid _) hgr
              clear hgr
              have hwi := HI.out.2.2
              obtain ⟨hwa, b0, b1, b2⟩ := HAT2.out wr hwi
              have p3 := box_cell (i := 3) b0 rfl
              by_cases hrr : r < rg
              · have hrI : (r : Int) < (rg : Int) := by omega
                have hkc := (hwa.cell (lt_of_cell HKT.out.2.2.1)).trans HKT.out.2.2.1
                obtain ⟨vb, vo, rfl, hv0⟩ := HKT.out.2.2.2 r (by rw [HKT.out.2.1]; exact hrr)
                have hv := (hwa.cell (lt_of_cell hv0)).trans hv0
                obtain ⟨v, hvv⟩ : ∃ v, kk.getD r 0 = v := ⟨_, rfl⟩
                rw [hvv] at hv
                by_cases hneg : v < 0
                · have y0 := fam_cell HI.out.2.1 (g := u0.heap.size) rfl (intsV_at (l := wsL (wdT mw K rg k) kk rg r) (i := r) (by rw [ws_len]; exact hrr))
                  have yf : wr.frozen? ⟨u0.heap.size, r, none⟩ = false := fam_frozen HI.out.2.1 rfl _
                  have HN : Hid (wm + 1 = wn + spN kk (r + 1) ∧ (wr.setCell ⟨u0.heap.size, r, none⟩ (.int .i64 wm)).ownsRow u0.heap.size 3 1 (.slice (some ⟨u0.heap.size, 0, none⟩) rg rg) rg (intsV (wsL (wdT mw K rg k) kk rg (r + 1))) ∧ Below u0.heap.size u0 (wr.setCell ⟨u0.heap.size, r, none⟩ (.int .i64 wm))) := by
                    refine ⟨by rw [spN_put (by rw [hvv]; exact hneg), HI.out.1]; omega, ?_, hwi.setCell (Nat.le_refl _) _⟩
                    have := fam_put HI.out.2.1 (g := u0.heap.size) rfl r (.int .i64 (wm : Int))
                    have e : (intsV (wsL (wdT mw K rg k) kk rg r)).set r (.int .i64 (wm : Int)) = intsV (wsL (wdT mw K rg k) kk rg (r + 1)) := by
                      rw [← ws_put hrr (by rw [hvv]; exact hneg), intsV_set]
                      have : wm = wdT mw K rg k r := by
                        unfold wdT
                        rw [HKT.out.1, HI.out.1, HWE.out]; omega
                      rw [this]
                    rw [e] at this
                    exact this
                  clear hv0 hvv hwi hwa b0 b1 b2
                  go_wp2_with fail
                  go_roundg (rg - r)
                  case measure => have := HGR.out; omega
                  case rel => exact ⟨r + 1, wm + 1, by omega, by omega, by go_num, by go_num, by omega, HN.out⟩
                · have hne : decide (v < 0) = false := decide_eq_false hneg
                  have HN : Hid (wm = wn + spN kk (r + 1) ∧ wr.ownsRow u0.heap.size 3 1 (.slice (some ⟨u0.heap.size, 0, none⟩) rg rg) rg (intsV (wsL (wdT mw K rg k) kk rg (r + 1))) ∧ Below u0.heap.size u0 wr) := by
                    rw [spN_skip (by rw [hvv]; exact hneg), ws_skip (by rw [hvv]; exact hneg)]
                    exact HI.out
                  clear hv0 hvv hwi hwa b0 b1 b2
                  go_wp2_with fail
                  go_roundg (rg - r)
                  case measure => have := HGR.out; omega
                  case rel => exact ⟨r + 1, wm, by omega, by omega, by go_num, rfl, by omega, HN.out⟩
              · obtain rfl : r = rg := by omega
                have HWS : Hid (∀ V, Below wr.heap.size wr V → SIs V (some ⟨u0.heap.size, 0, none⟩) (wsL (wdT mw K r k) kk r r)) := fun V hV => by
                  have h1 := HI.out.2.1
                  have h2 : wr.ownsRow u0.heap.size 3 1 (.slice (some ⟨u0.heap.size, 0, none⟩) (wsL (wdT mw K r k) kk r r).length r) (wsL (wdT mw K r k) kk r r).length (intsV (wsL (wdT mw K r k) kk r r)) := by rw [ws_len]; exact h1
                  exact (sis_own h2).below hV
                have HWI := Hid.out (p := Hid _) hwi
                have HWM := Hid.out (p := Hid _) HI.out.1
                clear b0 b1 b2 hwi hwa HI
                go_wp2_with fail
                clear p3
                obtain ⟨T, rfl⟩ : ∃ V, V = wr := ⟨_, rfl⟩
                go_loopg [13, 14] (l + 1) (fun gk bv iv wi => ∃ (j : Nat) (ba : Option Addr) (bc : Nat) (tw : List Value), j + gk = l + 1 ∧ j ≤ l ∧ iv = .int .i64 j ∧ bv = .slice ba j bc ∧ Hid (BeI T (b k) j wi (.slice ba j bc) tw))
                case atStart => exact ⟨0, none, 0, [], by omega, Nat.zero_le _, rfl, rfl, BeI.start _ _⟩
                case round =>
                  obtain ⟨j, ba, bc, tw, hgj, hj, rfl, rfl, HI⟩ := hrel
                  have HGJ := Hid.out (p := Hid _) hgj
                  clear hgj
                  have hwj := HWI.out.trans (HI.out.low.mono HWI.out.size)
                  obtain ⟨hwa, b0, b1, b2⟩ := HAT2.out _ hwj
                  have p0 := box_cell (i := 0) b0 rfl
                  have hcc := (hwa.cell (lt_of_cell HCE.out)).trans HCE.out
                  rw [HLK.out, HAK.out, HCK.out] at hcc
                  by_cases hjl : j < l
                  · have hjI : (j : Int) < (l : Int) := by omega
                    obtain ⟨ab, ao, e1, c0, c1, c2, c3⟩ := (HPR.out.1.below hwa).ord k j hkt (by rw [HLK.out]; exact hjl)
                    rw [HAK.out] at e1
                    subst e1
                    have hkc := (hwa.cell (lt_of_cell HKT.out.2.2.1)).trans HKT.out.2.2.1
                    have hod : ordE r mw lk l (X k j 0) (X k j 1) (X k j 2) (X k j 3) = 0 := by
                      have := HPR.out.2.1.ord k j hkt (by rw [HLK.out]; exact hjl)
                      rw [HLK.out, HML.out] at this
                      exact this
                    have HPT : Hid (∀ V, Below wr.heap.size wr V → Calls Tryd.prog 42 #[ints4 (X k j 0) (X k j 1) (X k j 2) (X k j 3), .slice ra r rc, .slice (some ⟨u0.heap.size, 0, none⟩) r r] V fun e w' => ∃ v, e = .returned v ∧ OwnC w' V.heap.size v (pnB kk (wdT mw K r k) (X k j 0, X k j 1, X k j 2, X k j 3)) ∧ Below V.heap.size V w') := fun V hV =>
                      rpaint_any V ra rc kk (some ⟨u0.heap.size, 0, none⟩) r (wsL (wdT mw K r k) kk r r) (wdT mw K r k) r mw lk l (X k j 0) (X k j 1) (X k j 2) (X k j 3) hod ((HKT.out.2.2.2).below (hwa.trans (hV.mono hwa.size))) HKT.out.2.1 (HWS.out V (HI.out.low.trans (hV.mono HI.out.low.size))) (ws_len _ _ _ _) (fun q hq hs => ws_at hq hs) (fun q hq => by rw [← HKT.out.1]; exact ((HPR.out.2.2.2.2 k hkt).2 q hq).1)
                    have HBJ : Hid (b k j = pnB kk (wdT mw K r k) (X k j 0, X k j 1, X k j 2, X k j 3)) := by
                      show b k j = _
                      rw [HBB.out, ← HKT.out.1]
                      rfl
                    clear hod b0 b1 b2 hwj hwa
                    obtain ⟨x0, hx0⟩ : ∃ x, X k j 0 = x := ⟨_, rfl⟩
                    obtain ⟨x1, hx1⟩ : ∃ x, X k j 1 = x := ⟨_, rfl⟩
                    obtain ⟨x2, hx2⟩ : ∃ x, X k j 2 = x := ⟨_, rfl⟩
                    obtain ⟨x3, hx3⟩ : ∃ x, X k j 3 = x := ⟨_, rfl⟩
                    rw [hx0, hx1, hx2, hx3] at HPT HBJ
                    rw [hx0] at c0
                    rw [hx1] at c1
                    rw [hx2] at c2
                    rw [hx3] at c3
                    clear hx0 hx1 hx2 hx3
                    go_wp2_with fail
                    go_region_held3 (fun w' => w'.cell? ⟨w.heap.size, 0, none⟩ = some (.slice (some ⟨cb, co, none⟩) t cc) ∧ w'.cell? ⟨cb, co + k, none⟩ = some (.slice (some ⟨ab, ao, none⟩) l ck) ∧ w'.cell? ⟨ab, ao + j * 4, none⟩ = some (.int .i64 x0) ∧ w'.cell? ⟨ab, ao + j * 4 + 1, none⟩ = some (.int .i64 x1) ∧ w'.cell? ⟨ab, ao + j * 4 + 2, none⟩ = some (.int .i64 x2) ∧ w'.cell? ⟨ab, ao + j * 4 + 3, none⟩ = some (.int .i64 x3) ∧ w'.cell? ⟨kb, ko + k, none⟩ = some (.slice ra r rc)) (go_keep) (first | (go_at_call 42; refine Calls.mono (HPT.out _ (by first | exact (Below.refl _ _).drew | exact Below.refl _ _)) ?_; rintro e w6 ⟨v6, rfl, ho6d, hb6d⟩; have hb6 : Below wr.heap.size wr w6 := (by first | exact (Below.refl _ _).drew.trans hb6d | exact hb6d); have ho6 : OwnC w6 wr.heap.size v6 (b k j) := (by rw [HBJ.out]; exact ho6d); clear ho6d hb6d; obtain ⟨a6, c6, rfl⟩ := fam_form ho6; have q0 := (hb6.cell (p := ⟨w.heap.size, 0, none⟩) (lt_of_cell p0)).trans p0; have q1 := (hb6.cell (p := ⟨cb, co + k, none⟩) (lt_of_cell hcc)).trans hcc; have q2 := (hb6.cell (p := ⟨ab, ao + j * 4, none⟩) (lt_of_cell c0)).trans c0; have q3 := (hb6.cell (p := ⟨ab, ao + j * 4 + 1, none⟩) (lt_of_cell c1)).trans c1; have q4 := (hb6.cell (p := ⟨ab, ao + j * 4 + 2, none⟩) (lt_of_cell c2)).trans c2; have q5 := (hb6.cell (p := ⟨ab, ao + j * 4 + 3, none⟩) (lt_of_cell c3)).trans c3; have q6 := (hb6.cell (p := ⟨kb, ko + k, none⟩) (lt_of_cell hkc)).trans hkc))
                    obtain ⟨g4, cap4, w4, hrun4, hI4⟩ := HI.out.push hb6 ho6 (by omega)
                    have HI4 := Hid.out (p := Hid _) hI4
                    clear hI4 ho6
                    go_wp2_with fail
                    go_roundg (l - j)
                    case measure => have := HGJ.out; omega
                    case rel => exact ⟨j + 1, _, _, _, by omega, by omega, by go_num, rfl, HI4.out⟩
                  · have hjl' : j = l := by omega
                    subst hjl'
                    have hword : Hid (Calls Tryd.prog 43 #[.slice ba j bc, .slice ak j ck] wr fun e w' => ∃ v, e = .returned v ∧ OwnC w' wr.heap.size v (codeR (b k) j) ∧ Below wr.heap.size wr w') := by
                      refine put6_four wr ba bc ak j ck (b k) (X k) hl4 HI.out.be (fun i hi => ?_) (fun i hi => ?_) (fun i x hi hx => ?_)
                      · obtain ⟨ab, ao, e, c0, _⟩ := (HPR.out.1.below hwa).ord k i hkt (by rw [HLK.out]; exact hi)
                        rw [HAK.out] at e
                        exact ⟨ab, ao, e, c0⟩
                      · rw [HBB.out]
                        exact bPnt_len k i
                      · rw [HBB.out] at hx
                        have hod := HPR.out.2.1.ord k i hkt (by rw [HLK.out]; exact hi)
                        have h1 := bPnt_led (rg := r) HPR.out.2.1 (fun t ht r hr => ((HPR.out.2.2.2.2 t ht).2 r hr).2.1) hkt (by rw [HLK.out]; exact hi) (by rw [HML.out]; exact hx)
                        have h2 : x.1 = 8 ∨ x.1 = 9 ∨ x.1 = X k i 0 := pnB_op (ok_op hod) hx
                        rw [HLK.out] at h1
                        refine ⟨fun e => ⟨Or.inl (by omega), h1.2.1 e⟩, fun e => ⟨by omega, h1.2.2 e⟩⟩
                    clear b0 b1 b2 hwj hwa
                    go_wp2_with fail
                    refine Calls.mono hword.out ?_
                    rintro e w7 ⟨v7, rfl, ho7, hb7⟩
                    obtain ⟨a7, c7, rfl⟩ := fam_form ho7
                    have hb5' := HWI.out.trans (HI.out.low.mono HWI.out.size)
                    have hb7' := hb5'.trans (hb7.mono hb5'.size)
                    obtain ⟨l7, hl7⟩ : ∃ x, (codeR (b k) j).length = x := ⟨_, rfl⟩
                    have HL7 : Hid (lenR b L k = l7) := by
                      show lenR b L k = l7
                      unfold lenR
                      rw [HLK.out]
                      exact hl7
                    by_cases hbig : 400 < l7
                    · have hq1 : (x, y, z) = (1, (k : Int), 0) := by
                        rw [← HFT.out]
                        rcases long_cases (L := lenR b L) t 0 with ⟨_, h2⟩ | ⟨t', h1, h2, h3, h4, h5⟩
                        · have := h2 k (by omega) (by omega)
                          rw [HL7.out] at this
                          omega
                        · have e : t' = k := by
                            rcases Nat.lt_trichotomy t' k with h | h | h
                            · have := HLE.out t' h
                              omega
                            · exact h
                            · have := h5 k (by omega) h
                              rw [HL7.out] at this
                              omega
                          rw [h3, e]
                      simp only [Prod.mk.injEq] at hq1
                      obtain ⟨rfl, rfl, rfl⟩ := hq1
                      have hbI : (400 : Int) < (l7 : Int) := by omega
                      obtain ⟨hwr, b0, b1, b2⟩ := HAT2.out w7 hb7'
                      obtain ⟨V, hV, ⟨r0, r1, r2, r3, r4, r5, r6⟩, hlow, hfar⟩ := res7 hwr b1 b2 nilV nilV (.int .i64 0) (.int .i64 0) (.int .i64 1) (.int .i64 k) (.int .i64 0)
                      have t0 := box_cell (i := 0) b1 rfl
                      have t1 := box_cell (i := 1) b1 rfl
                      have t2 := box_cell (i := 2) b1 rfl
                      have t3 := box_cell (i := 3) b1 rfl
                      have u0 := box_cell (i := 0) b2 rfl
                      have u1 := box_cell (i := 1) b2 rfl
                      have u2 := box_cell (i := 2) b2 rfl
                      have tf : ∀ i, w7.frozen? ⟨w.heap.size + 1, i, none⟩ = false := fun i => box_free b1
                      have uf : ∀ i, w7.frozen? ⟨w.heap.size + 1 + 1, i, none⟩ = false := fun i => box_free b2
                      have HV := Hid.out (p := Hid _) (And.intro hV hlow)
                      rw [hl7]
                      clear hV hlow hfar b0 b1 b2 hwr ho7 hb7 hb7' hb5' hl7 hword
                      go_wp2_with fail
                      rw [HV.out.1]
                      exact bodyPost_ret (v := .tuple #[zeP, ints3 1 k 0]) (by simp [results, Tryd.results21, go_sem, r0, r1, r2, r3, r4, r5, r6]) rfl ⟨rfl, HV.out.2⟩
                    · have hbI : decide ((400 : Int) < (l7 : Int)) = false := decide_eq_false (by omega)
                      have hbI2 : decide (400 < l7) = false := decide_eq_false hbig
                      rw [← HLK.out] at ho7
                      obtain ⟨g8, cap8, w8, hrun8, hbx8, hb8, hR8⟩ := HRK.out.push hb7' hb5'.size ho7 (by omega)
                      have hbx7 := (hb7'.block qb (box_lt HRK.out.box)).trans HRK.out.box
                      have y0 := box_cell (i := 0) hbx7 rfl
                      have y8 := box_cell (i := 0) hbx8 rfl
                      have yf8 : w8.frozen? ⟨qb, 0, none⟩ = false := box_free hbx8
                      rw [HLK.out] at hrun8
                      rw [hl7] at hrun8
                      have HR8 : Hid (wm = mw + spT K r (k + 1) ∧ ∃ va vc tv, RwI S qb (.slice ua0 (mw + sn) uc0) (words ++ List.replicate sn 0) lk 8 b L (k + 1) (w8.setCell ⟨qb, 0, none⟩ (.slice (some ⟨g8, 0, none⟩) (k + 1) cap8)) (.slice va (k + 1) vc) tv ∧ ∀ i, i < k + 1 → lenR b L i ≤ 400) := by
                        refine ⟨?_, _, _, _, hR8, fun i hi => ?_⟩
                        · rw [spT, HKT.out.1, HWM.out, HWE.out]
                          omega
                        · by_cases e : i = k
                          · rw [e, HL7.out]; omega
                          · exact HLE.out i (by omega)
                      have hwm2 : wm ≤ 2000 := by
                        have h1 := spT_le K r (k + 1)
                        have h2 : (k + 1) * r ≤ 4 * 200 := Nat.mul_le_mul (by omega) hrg2
                        have h3 := HR8.out.1
                        omega
                      rw [hl7]
                      clear ho7 hb7 hb7' hb5' hbx8 hb8 hR8 hbx7 hl7 hword
                      go_wp2_with fail
                      go_roundg (t - k)
                      case measure => have := HGK.out; omega
                      case rel => exact ⟨k + 1, wm, by omega, by omega, by go_num, rfl, hwm2, HR8.out⟩
          · obtain rfl : k = t := by omega
            have hq1 : (x, y, z) = (0, 0, 0) := by
              rw [← HFT.out]
              rcases long_cases (L := lenR b L) k 0 with ⟨h1, _⟩ | ⟨t', h1, h2, h3, h4, h5⟩
              · exact h1
              · have := HLE.out t' (by omega)
                omega
            simp only [Prod.mk.injEq] at hq1
            obtain ⟨rfl, rfl, rfl⟩ := hq1
            have hwl : (words ++ List.replicate sn 0).length = mw + sn := by rw [List.length_append, List.length_replicate, HML.out]
            have hNQ : NewQ S k (words ++ List.replicate sn 0) lk 8 b L (.returned (.agg #[.slice va k vc, .slice ua0 (mw + sn) uc0, .int .i64 lk, .int .i64 8])) wr := by
              refine ⟨va, vc, ua0, uc0, tv, by rw [hwl], hRk.code, fun t ht => (hRk.thr t ht).1, ?_, hRk.low⟩
              have := hRk.words
              rw [hwl] at this ⊢
              exact this
            have b3 := hRk.box
            have s0 := box_cell (i := 0) b3 rfl
            have s1 := box_cell (i := 1) b3 rfl
            have s2 := box_cell (i := 2) b3 rfl
            have s3 := box_cell (i := 3) b3 rfl
            have t0 := box_cell (i := 0) b1 rfl
            have t1 := box_cell (i := 1) b1 rfl
            have t2 := box_cell (i := 2) b1 rfl
            have t3 := box_cell (i := 3) b1 rfl
            have u0 := box_cell (i := 0) b2 rfl
            have u1 := box_cell (i := 1) b2 rfl
            have u2 := box_cell (i := 2) b2 rfl
            have tf : ∀ i, wr.frozen? ⟨w.heap.size + 1, i, none⟩ = false := fun i => box_free b1
            have uf : ∀ i, wr.frozen? ⟨w.heap.size + 1 + 1, i, none⟩ = false := fun i => box_free b2
            obtain ⟨V, hV, ⟨r0, r1, r2, r3, r4, r5, r6⟩, hlow, hfar⟩ := res7 hwr b1 b2 (.slice va k vc) (.slice ua0 (mw + sn) uc0) (.int .i64 lk) (.int .i64 8) (.int .i64 0) (.int .i64 0) (.int .i64 0)
            have hSs := HSS.out.2
            have HNV : Hid (NewQ w k (words ++ List.replicate sn 0) lk 8 b L (.returned (.agg #[.slice va k vc, .slice ua0 (mw + sn) uc0, .int .i64 lk, .int .i64 8])) V) := by
              refine hNQ.far (fun g hg1 hg2 => hfar g (by omega) (by omega)) (by omega) hlow
            have HV := Hid.out (p := Hid _) (And.intro hV hlow)
            clear hV hlow hfar b0 b1 b2 b3 hwr hRk hNQ hwl hSs
            go_wp2_with fail
            rw [HV.out.1]
            refine bodyPost_ret (v := .tuple #[.agg #[.slice va k vc, .slice ua0 (mw + sn) uc0, .int .i64 lk, .int .i64 8], ints3 0 0 0]) (by simp [results, Tryd.results21, go_sem, r0, r1, r2, r3, r4, r5, r6]) rfl ?_
            exact ⟨va, vc, ua0, uc0, rfl, fun V' hV' => HNV.out.below hV', HV.out.2⟩

end Go.Proofs.YtocfocjnnjdcgaaDoor
