/-
  A state is put among those that were come to, by the document.
-/
import Derived.Test.YtocfocjnnjdcgaaDoorZPut
namespace Go.Proofs.YtocfocjnnjdcgaaDoor
open Go.RowKit

/-- What put leaves: a state that was there already, or one more. -/
def SputQ (w : World) (B : Nat) (P : Pg) (pb : Nat) (v : Sr → Value) (d : Sd) (xb : Nat) (sx : Sx) (e : Ending) (w' : World) : Prop := e = .returned (.tuple #[]) ∧
  (((∃ i, i < d.ss.length ∧ keyL d i = numsX sx) ∧ Below w.heap.size w w') ∨ ((∀ i, i < d.ss.length → keyL d i ≠ numsX sx) ∧ ∃ v' ka kc, SpIn w' B P pb v' (d.push xb sx ka kc) ∧ Moved w w' v v'))

attribute [local go_sem ↓] appS_eq
set_option maxRecDepth 100000 in
set_option maxHeartbeats 3200000 in
theorem sput_any (w : World) (B : Nat) (P : Pg) (pb : Nat) (v : Sr → Value) (d : Sd) (L : Nat → Nat) (m lk rg Bx xb : Nat) (vx : Rl → Value) (sx : Sx) (hS : SpIn w B P pb v d) (hx : DSt w Bx P xb vx sx) (hxo : ∀ r g, (vx r).ownBlock = some g → ∀ q, (v q).ownBlock ≠ some g) (ho : SOk P.n L m lk rg P.mode sx) (hn0 : 0 < P.n) (hN : P.n ≤ 4) (hm64 : m ≤ 64) (hlk4 : lk ≤ 4) (hrg : rg ≤ 200) (hpl : sx.prints.length ≤ 20000) (hd : d.ss.length ≤ 5000) (hkl : ∀ i, i < d.ss.length → (keyL d i).length ≤ 100000) :
    Calls Tryd.prog 75 #[.pointer (some ⟨pb, 0, none⟩), .pointer (some ⟨xb, 0, none⟩)] w (SputQ w B P pb v d xb sx) := by
  have HNM := Hid.out (p := Hid _) (nums_any w Bx xb P vx sx L m lk rg hn0 hx ho hN hm64 hlk4 hrg (by omega))
  have HNL : Hid ((numsX sx).length ≤ 100000) := by
    have h1 := numA_len sx (rg := rg) (fun t ht => ho.regs t (by rw [← ho.ths]; exact ht)) (fun t ht => ho.wlen t (by rw [← ho.ths]; exact ht)) sx.ths.length (Nat.le_refl _)
    have h2 : (11 + rg) * sx.ths.length ≤ 211 * 4 := Nat.mul_le_mul (by omega) (by rw [ho.ths]; exact hN)
    have h3 := ho.words
    have h4 := ho.own
    show (sx.ths.flatMap numT ++ sx.words ++ sx.own ++ sx.prints).length ≤ 100000
    rw [← numA_all]
    simp only [List.length_append]
    omega
  obtain ⟨hb, hc, hhv, hhb⟩ := hS.hdB
  have c2 := hS.c2
  rw [hhv] at c2
  have HHD : Hid (∀ k, k < 4096 → w.cell? ⟨hb, k, none⟩ = some (.int .i64 (lastS (sumsD d) k d.ss.length))) := fun k hk => hS.head hhb hk
  have HSP := Hid.out (p := Hid _) hS
  have HHB : Hid ((v .hd).ownBlock = some hb) := hhb
  obtain ⟨n, hnn⟩ : ∃ n, d.ss.length = n := ⟨_, rfl⟩
  have HN : Hid (d.ss.length = n) := hnn
  rw [hnn] at HHD hd hkl
  have HKL := Hid.out (p := Hid _) hkl
  have HX : Hid (DSt w Bx P xb vx sx ∧ ∀ r g, (vx r).ownBlock = some g → ∀ q, (v q).ownBlock ≠ some g) := ⟨hx, hxo⟩
  clear hx hxo ho hS hnn hkl hhv hhb
  go_enter Tryd.func75, Tryd.ntmps75
  go_wp2_with fail
  refine Calls.mono HNM.out ?_
  rintro e w1 ⟨la, ll, lc, rfl, hI1, hb1⟩
  have hLI : LI w1 la (numsX sx) := fun i hi => hI1.iin i (by rw [← hI1.is]; exact hi)
  have HI1 := Hid.out (p := Hid _) hI1
  have c21 := (hb1.cell (lt_of_cell c2)).trans c2
  obtain ⟨l, hl⟩ : ∃ l, numsX sx = l := ⟨_, rfl⟩
  have HLX : Hid (numsX sx = l) := hl
  have hll : ll = l.length := by rw [← hl]; exact hI1.is.symm
  subst hll
  rw [hl] at hLI HNL
  have hsm := sumL_lt l
  have hh1 := (hb1.cell (lt_of_cell (HHD.out _ hsm))).trans (HHD.out _ hsm)
  have HSM := Hid.out (p := Hid _) (sum_any la l lc HNL.out w1 hLI)
  clear HNM hI1 hl
  go_wp2_with fail
  refine Calls.mono HSM.out ?_
  rintro e w2 ⟨rfl, rfl⟩
  obtain ⟨h, hh⟩ : ∃ h, sumL l = h := ⟨_, rfl⟩
  have HH : Hid (sumL l = h) := hh
  rw [hh] at hsm hh1 ⊢
  clear hh HSM
  go_wp2_with fail
  have HROW : Hid (∀ i, i < n → ∃ kb kc ka kl c bb bc, w2.cell? ⟨pb, 1, none⟩ = some (.slice (some ⟨kb, 0, none⟩) n kc) ∧ w2.cell? ⟨kb, i, none⟩ = some (.slice ka kl c) ∧ kl = (keyL d i).length ∧ LI w2 ka (keyL d i) ∧ w2.cell? ⟨pb, 3, none⟩ = some (.slice (some ⟨bb, 0, none⟩) n bc) ∧ w2.cell? ⟨bb, i, none⟩ = some (.int .i64 (lastS (sumsD d) (sumsD d i) i))) := fun i hi => by
    have hS := HSP.out.below hb1
    have hi' : i < d.ss.length := by rw [HN.out]; exact hi
    obtain ⟨kb, kc, e1, e2⟩ := hS.ksB (by omega)
    obtain ⟨bb, bc, e3, e4⟩ := hS.bfB (by omega)
    obtain ⟨_, h1, _⟩ := hS.keys i hi'
    have c1 := hS.c1
    have c3 := hS.c3
    rw [e1, HN.out] at c1
    rw [e3, HN.out] at c3
    exact ⟨kb, kc, _, _, _, bb, bc, c1, hS.key e2 hi', rfl, h1.iin, c3, hS.before e4 hi'⟩
  go_loopw [6] (fun i wr => ∃ mm : Nat, mm ≤ n ∧ i = .int .i64 (lastS (sumsD d) h mm) ∧ Hid (∀ j, mm ≤ j → j < n → keyL d j ≠ l) ∧ Below w2.heap.size w2 wr) (fun i _ => (intOf i + 1).toNat)
  case atStart => exact ⟨n, Nat.le_refl _, rfl, fun j h1 h2 => by omega, Below.refl _ _⟩
  case round =>
    obtain ⟨mm, hmm, rfl, HNO, hbr⟩ := hrel
    have hlow := last_low (f := sumsD d) (h := h) mm
    have hlt := last_lt (f := sumsD d) (h := h) mm
    have HLI := Hid.out (p := Hid _) (last_is (f := sumsD d) (h := h) mm)
    have HLN := Hid.out (p := Hid _) (last_none (f := sumsD d) (h := h) mm)
    obtain ⟨q, hq⟩ : ∃ q, lastS (sumsD d) h mm = q := ⟨_, rfl⟩
    rw [hq] at hlow hlt HLI HLN ⊢
    by_cases h0 : 0 ≤ q
    · obtain ⟨i, rfl⟩ : ∃ i : Nat, q = i := ⟨q.toNat, by omega⟩
      have hin : i < n := by omega
      obtain ⟨kb, kc, ka, kl, c, bb, bc, r1, r2, hkl2, r3, r4, r5⟩ := HROW.out i hin
      have r1r := (hbr.cell (lt_of_cell r1)).trans r1
      have r2r := (hbr.cell (lt_of_cell r2)).trans r2
      subst hkl2
      have HCI := Hid.out (p := Hid _) (rints_any ka la (keyL d i) l c lc (HKL.out i hin) HNL.out wr (IIn.below r3 hbr) (IIn.below hLI hbr))
      have HSI : Hid (sumsD d i = h) := (HLI.out i rfl).1
      clear hq
      go_wp2_with fail
      refine Calls.mono HCI.out ?_
      rintro e w3 ⟨rfl, hb3⟩
      have hB3 : Below w2.heap.size w2 w3 := hbr.trans (hb3.mono hbr.size)
      have r4r := (hB3.cell (lt_of_cell r4)).trans r4
      have r5r := (hB3.cell (lt_of_cell r5)).trans r5
      by_cases hk : keyL d i = l
      · have HR : Hid (SputQ w B P pb v d xb sx (.returned (.tuple #[])) w3) := ⟨rfl, Or.inl ⟨⟨i, by rw [HN.out]; exact hin, by rw [hk, HLX.out]⟩, hb1.trans (hB3.mono hb1.size)⟩⟩
        rw [decide_eq_true hk]
        clear HCI HLI HLN HNO HROW
        go_wp2
        go_end0
        exact HR.out
      · rw [decide_eq_false hk]
        have HNX : Hid (∀ j, i ≤ j → j < n → keyL d j ≠ l) := fun j h1 h2 e => by
          rcases Nat.lt_or_ge j mm with h3 | h3
          · rcases Nat.eq_or_lt_of_le h1 with h4 | h4
            · subst h4; exact hk e
            · exact (HLI.out i rfl).2 j h4 h3 (by show sumL (keyL d j) = h; rw [e]; exact HH.out)
          · exact HNO.out j h3 h2 e
        rw [HSI.out] at r5r
        have hl2 := last_lt (f := sumsD d) (h := h) i
        have hl3 := last_low (f := sumsD d) (h := h) i
        clear HCI HLI HLN HNO HROW r5 hk
        go_wp2
        go_roundw
        case rel => exact ⟨i, by omega, rfl, HNX, hB3⟩
        case measure => simp [intOf]; omega
    · have HNO2 : Hid (∀ j, j < n → keyL d j ≠ l) := fun j h2 e => by
        rcases Nat.lt_or_ge j mm with h3 | h3
        · exact HLN.out (by omega) j h3 (by show sumL (keyL d j) = h; rw [e]; exact HH.out)
        · exact HNO.out j h3 h2 e
      clear HROW HNO HLI HLN
      have hBW : Below w.heap.size w wr := hb1.trans (hbr.mono hb1.size)
      have hS0 := HSP.out.below hBW
      have hNn := HN.out
      have hBz : B ≤ wr.heap.size := Nat.le_trans (hS0.fam.low .box pb hS0.bblk) (Nat.le_of_lt (hS0.fam.lt hS0.bblk))
      obtain ⟨ba, bc, hbv⟩ := fam_form (hS0.fam.own .bf)
      have hbl : sN d .bf = n := hNn
      rw [hbl] at hbv
      obtain ⟨g1, c1, w3, r1, o1, k1, a1⟩ := app_row (T := 23) Tryd.underlying23 infoI rfl (by omega) (hS0.fam.own .bf) (Below.refl _ wr).drew hBz 1 #[.int .i64 (lastS (sumsD d) h n)] rfl (by simp [Value.oneCell']) (by omega) (by rw [hbl]; omega) (by omega)
      have hbd1 : Below wr.heap.size wr (wr.drew.alloc (.cells #[.int .i64 (lastS (sumsD d) h n)] 3)) := ((Below.refl _ _).drew).alloc (by simp) _
      have F0 := hS0.fam.below hbd1
      obtain ⟨y1, hy1⟩ : ∃ y : Value, y = .slice (some ⟨g1, 0, none⟩) (n + 1) c1 := ⟨_, rfl⟩
      rw [hbl] at o1 r1
      have G1 := F0.grew (r := .bf) o1 k1 a1 (by simp)
      rw [← hy1] at G1
      have M0 : Moved wr (wr.drew.alloc (.cells #[.int .i64 (lastS (sumsD d) h n)] 3)) v v := Moved.of_below hbd1
      have M1 := M0.grow (r := .bf) (m := n + 1) (c := c1) k1 a1 (by simp)
      rw [← hy1] at M1
      have pbk : (v .box).ownBlock = some pb := hS0.bblk
      have hbk : (v .hd).ownBlock = some hb := HHB.out
      have npb : ¬ pb = hb := F0.ne pbk hbk (by decide)
      have nbp : ¬ hb = pb := fun e => npb e.symm
      -- the list of those ahead
      have F1 := G1.store (r := .box) (g := pb) (by rw [upd_ne _ _ (by decide)]; exact pbk) 3 y1
      have N1 := M1.put (r := .box) (g := pb) (by rw [upd_ne _ _ (by decide)]; exact pbk) 3 y1
      have F1d := F1.drew
      have N1d := N1.drew
      -- the last one of the sum
      have F2 := F1d.store (r := .hd) (g := hb) (by rw [upd_ne _ _ (by decide)]; exact hbk) h (.int .i64 (n : Nat))
      have N2 := N1d.put (r := .hd) (g := hb) (by rw [upd_ne _ _ (by decide)]; exact hbk) h (.int .i64 (n : Nat))
      obtain ⟨W2, hW2⟩ : ∃ W, W = (w3.setCell ⟨pb, 3, none⟩ y1).drew.setCell ⟨hb, h, none⟩ (.int .i64 (n : Nat)) := ⟨_, rfl⟩
      rw [← hW2] at F2 N2
      have hB2 : B ≤ W2.heap.size := Nat.le_trans hBz N2.size
      -- the states
      obtain ⟨sa, sc, hsv⟩ := fam_form (F2.own .st)
      obtain ⟨g3, c3, w5, r3, o3, k3, a3⟩ := app_row (T := 50) Tryd.underlying50 infoP rfl (by omega) (F2.own .st) (Below.refl _ W2) hB2 1 #[.pointer (some ⟨xb, 0, none⟩)] rfl (by simp [Value.oneCell']) (by omega) (by show d.ss.length + 1 ≤ _; omega) (by omega)
      have hsl : upd (sN d) Sr.bf (n + 1) Sr.st = n := by rw [upd_ne _ _ (by decide)]; exact hNn
      rw [hsl] at hsv o3 r3
      obtain ⟨y3, hy3⟩ : ∃ y : Value, y = .slice (some ⟨g3, 0, none⟩) (n + 1) c3 := ⟨_, rfl⟩
      have hbd3 : Below W2.heap.size W2 (W2.alloc (.cells #[.pointer (some ⟨xb, 0, none⟩)] 129)) := (Below.refl _ _).alloc (Nat.le_refl _) _
      have G3 := (F2.below hbd3).grew (r := .st) o3 k3 a3 (by simp)
      have M3 := (N2.alloc (.cells #[.pointer (some ⟨xb, 0, none⟩)] 129)).grow (r := .st) (m := n + 1) (c := c3) k3 a3 (by simp)
      rw [← hy3] at G3 M3
      have F3 := G3.store (r := .box) (g := pb) (by rw [upd_ne _ _ (by decide), upd_ne _ _ (by decide)]; exact pbk) 0 y3
      have N3 := M3.put (r := .box) (g := pb) (by rw [upd_ne _ _ (by decide), upd_ne _ _ (by decide)]; exact pbk) 0 y3
      obtain ⟨W3, hW3⟩ : ∃ W, W = w5.setCell ⟨pb, 0, none⟩ y3 := ⟨_, rfl⟩
      rw [← hW3] at F3 N3
      have hB3 : B ≤ W3.heap.size := Nat.le_trans hBz N3.size
      -- their numbers
      have hkl : upd (upd (sN d) Sr.bf (n + 1)) Sr.st (n + 1) Sr.ks = n := by rw [upd_ne _ _ (by decide), upd_ne _ _ (by decide)]; exact hNn
      obtain ⟨ka, kc, hkv⟩ := fam_form (F3.own .ks)
      obtain ⟨g4, c4, w6, r4, o4, k4, a4⟩ := app_row (T := 37) Tryd.underlying37 infoL rfl (by omega) (F3.own .ks) (Below.refl _ W3) hB3 1 #[.slice la l.length lc] rfl (by simp [Value.oneCell']) (by omega) (by rw [hkl]; omega) (by omega)
      rw [hkl] at hkv o4 r4
      obtain ⟨y4, hy4⟩ : ∃ y : Value, y = .slice (some ⟨g4, 0, none⟩) (n + 1) c4 := ⟨_, rfl⟩
      have hbd4 : Below W3.heap.size W3 (W3.alloc (.cells #[.slice la l.length lc] 23)) := (Below.refl _ _).alloc (Nat.le_refl _) _
      have G4 := (F3.below hbd4).grew (r := .ks) o4 k4 a4 (by simp)
      have M4 := (N3.alloc (.cells #[.slice la l.length lc] 23)).grow (r := .ks) (m := n + 1) (c := c4) k4 a4 (by simp)
      rw [← hy4] at G4 M4
      have pb4 : (upd (upd (upd v Sr.bf y1) Sr.st y3) Sr.ks y4 .box).ownBlock = some pb := by rw [upd_ne _ _ (by decide), upd_ne _ _ (by decide), upd_ne _ _ (by decide)]; exact pbk
      have F4 := G4.store (r := .box) (g := pb) pb4 1 y4
      have N4 := M4.put (r := .box) (g := pb) pb4 1 y4
      have F5 := F4.store (r := .box) (g := pb) pb4 5 (.bool (d.full || decide (4000 < n + 1)))
      have N5 := N4.put (r := .box) (g := pb) pb4 5 (.bool (d.full || decide (4000 < n + 1)))
      have HR : Hid (SputQ w B P pb v d xb sx (.returned (.tuple #[])) ((w6.setCell ⟨pb, 1, none⟩ y4).setCell ⟨pb, 5, none⟩ (.bool (d.full || decide (4000 < n + 1))))) := by
        refine ⟨rfl, Or.inr ⟨fun i hi => by rw [HLX.out]; exact HNO2.out i (by rw [← hNn]; exact hi), upd (upd (upd v Sr.bf y1) Sr.st y3) Sr.ks y4, la, lc, ⟨F5.same (fun q => ?_) (fun q => ?_), ?_, ?_, ?_, fun i hi => ?_, fun i hi => ?_⟩, (Moved.of_below hBW).trans N5⟩⟩
        · cases q with
          | box => rfl
          | hd => rfl
          | st => show (d.push xb sx la lc).ss.length = n + 1; rw [push_len, hNn]
          | ks => show (d.push xb sx la lc).ss.length = n + 1; rw [push_len, hNn]
          | bf => show (d.push xb sx la lc).ss.length = n + 1; rw [push_len, hNn]
        · have hsum : sumL (numsX sx) = h := by rw [HLX.out]; exact HH.out
          cases q with
          | box =>
            show [y3, y4, v .hd, y1, d.ends, .bool (d.full || decide (4000 < d.ss.length + 1))] = _
            rw [hNn]
            rfl
          | st =>
            show (d.sbs ++ [xb]).map (fun b => Value.pointer (some ⟨b, 0, none⟩)) = d.sbs.map (fun b => Value.pointer (some ⟨b, 0, none⟩)) ++ [.pointer (some ⟨xb, 0, none⟩)]
            simp
          | ks =>
            have e := push_kvs (d := d) (xb := xb) (sx := sx) (ka := la) (kc := lc) hS0.klen
            rw [HLX.out] at e
            exact e
          | hd =>
            show intsV (headsD (d.push xb sx la lc)) = (intsV (headsD d)).set h (.int .i64 (n : Nat))
            rw [push_heads hsum, intsV_set, hNn]
          | bf =>
            show intsV (beforeD (d.push xb sx la lc)) = intsV (beforeD d) ++ [.int .i64 (lastS (sumsD d) h n)]
            rw [push_before, hsum, hNn]
            simp [intsV]
        · rw [upd_ne _ _ (by decide), upd_ne _ _ (by decide), upd_ne _ _ (by decide)]; exact hS0.box
        · show (d.sbs ++ [xb]).length = (d.ss ++ [sx]).length
          rw [List.length_append, List.length_append, hS0.len]; rfl
        · show (d.ks ++ [(la, lc)]).length = (d.ss ++ [sx]).length
          rw [List.length_append, List.length_append, hS0.klen]; rfl
        · rw [push_len] at hi
          rcases Nat.lt_or_ge i d.ss.length with h1 | h1
          · obtain ⟨B', v', q1, q2⟩ := hS0.states i h1
            obtain ⟨q3, q4⟩ := q1.moved q2 N5
            refine ⟨B', v', ?_, q4⟩
            rw [push_ss h1, show (d.push xb sx la lc).sbs.getD i 0 = d.sbs.getD i 0 by show (d.sbs ++ [xb]).getD i 0 = _; simp [List.getD, List.getElem?_append_left (show i < d.sbs.length by rw [hS0.len]; exact h1)]]
            exact q3
          · obtain rfl : i = d.ss.length := by omega
            obtain ⟨q3, q4⟩ := (HX.out.1.below hBW).moved HX.out.2 N5
            refine ⟨Bx, vx, ?_, q4⟩
            rw [push_new, show (d.push xb sx la lc).sbs.getD d.ss.length 0 = xb by show (d.sbs ++ [xb]).getD d.ss.length 0 = _; rw [← hS0.len]; simp [List.getD]]
            exact q3
        · rw [push_len] at hi
          rcases Nat.lt_or_ge i d.ss.length with h1 | h1
          · obtain ⟨B', q1, q2⟩ := hS0.keys i h1
            obtain ⟨q3, q4⟩ := q1.moved q2 N5
            refine ⟨B', ?_, by rw [push_kv hS0.klen h1]; exact q4⟩
            rw [push_key h1, show (d.push xb sx la lc).ks.getD i default = d.ks.getD i default by show (d.ks ++ [(la, lc)]).getD i default = _; simp [List.getD, List.getElem?_append_left (show i < d.ks.length by rw [hS0.klen]; exact h1)]]
            exact q3
          · obtain rfl : i = d.ss.length := by omega
            obtain ⟨q3, q4⟩ := IsI.moved (vf := v) (HI1.out.below hbr) (fun g hg q e => by
              have h1 := (HI1.out.own.lt g hg).1
              have h2 := HSP.out.fam.lt e
              omega) N5
            refine ⟨w.heap.size, ?_, by rw [push_kvN hS0.klen, HLX.out]; exact q4⟩
            rw [push_keyN, show (d.push xb sx la lc).ks.getD d.ss.length default = (la, lc) by show (d.ks ++ [(la, lc)]).getD d.ss.length default = _; rw [← hS0.klen]; simp [List.getD], HLX.out]
            rw [HLX.out] at q3
            exact q3
      have e3 := hS0.c3
      rw [hbv] at e3
      have e2 := (hBW.cell (lt_of_cell c2)).trans c2
      have eh := (hBW.cell (lt_of_cell (HHD.out _ hsm))).trans (HHD.out _ hsm)
      have e3u := cell_up e3
      have e2u := cell_up e2
      have ehu := cell_up eh
      have hhv : v .hd = .slice (some ⟨hb, 0, none⟩) 4096 hc := by
        have := hS0.c2
        rw [e2] at this
        exact (Option.some.inj this).symm
      have hsv' : v .st = .slice sa n sc := hsv
      have hkv' : v .ks = .slice ka n kc := hkv
      have pk1 : (upd v Sr.bf y1 .box).ownBlock = some pb := by rw [upd_ne _ _ (by decide)]; exact pbk
      have pk3 : (upd (upd v Sr.bf y1) Sr.st y3 .box).ownBlock = some pb := by rw [upd_ne _ _ (by decide), upd_ne _ _ (by decide)]; exact pbk
      have hk1 : (upd v Sr.bf y1 .hd).ownBlock = some hb := by rw [upd_ne _ _ (by decide)]; exact hbk
      have p0 : w3.cell? ⟨pb, 0, none⟩ = some (.slice sa n sc) := (G1.cell pk1 rfl).trans (congrArg some hsv')
      have p1 : w3.cell? ⟨pb, 1, none⟩ = some (.slice ka n kc) := (G1.cell pk1 rfl).trans (congrArg some hkv')
      have p2 : w3.cell? ⟨pb, 2, none⟩ = some (.slice (some ⟨hb, 0, none⟩) 4096 hc) := (G1.cell pk1 rfl).trans (congrArg some hhv)
      have p3 : w3.cell? ⟨pb, 3, none⟩ = some (.slice ba n bc) := (G1.cell pk1 rfl).trans (congrArg some hbv)
      have p5 : w3.cell? ⟨pb, 5, none⟩ = some (.bool d.full) := G1.cell pk1 rfl
      have pf : ∀ i, w3.frozen? ⟨pb, i, none⟩ = false := fun i => G1.frozen pk1 i
      have ph : w3.cell? ⟨hb, h, none⟩ = some (.int .i64 (lastS (sumsD d) h n)) := (k1.cell (cell_up (a := ⟨hb, h, none⟩) (w := wr.drew) eh _) (fun e => absurd (F0.apart _ _ hb hbk e.symm) (by decide)))
      have phf : ∀ i, w3.frozen? ⟨hb, i, none⟩ = false := fun i => G1.frozen hk1 i
      have q0 : w5.cell? ⟨pb, 0, none⟩ = some (.slice sa n sc) := (G3.cell pk3 rfl).trans (congrArg some hsv')
      have q1 : w5.cell? ⟨pb, 1, none⟩ = some (.slice ka n kc) := (G3.cell pk3 rfl).trans (congrArg some hkv')
      have q5 : w5.cell? ⟨pb, 5, none⟩ = some (.bool d.full) := G3.cell pk3 rfl
      have qf : ∀ i, w5.frozen? ⟨pb, i, none⟩ = false := fun i => G3.frozen pk3 i
      have s0 : w6.cell? ⟨pb, 0, none⟩ = some y3 := G4.cell pb4 rfl
      have s1 : w6.cell? ⟨pb, 1, none⟩ = some (.slice ka n kc) := (G4.cell pb4 rfl).trans (congrArg some hkv')
      have s5 : w6.cell? ⟨pb, 5, none⟩ = some (.bool d.full) := G4.cell pb4 rfl
      have sf : ∀ i, w6.frozen? ⟨pb, i, none⟩ = false := fun i => G4.frozen pb4 i
      have z2 : W2.heap.size = w3.heap.size := by rw [hW2]; simp [World.setCell]
      have z3 : W3.heap.size = w5.heap.size := by rw [hW3]; simp [World.setCell]
      rw [hbv, show wr.drew.heap.size = wr.heap.size from rfl] at r1
      have hrun1 : (AppS #[23, 23] 23 #[.slice ba n bc, .slice (some ⟨wr.heap.size, 0, none⟩) 1 1]).run Tryd.prog (wr.alloc (.cells #[.int .i64 (lastS (sumsD d) h n)] 3)).drew = .ok y1 w3 := by rw [hy1]; exact r1
      rw [hsv, z2, hW2] at r3
      have hrun3 : (AppS #[50, 50] 50 #[.slice sa n sc, .slice (some ⟨w3.heap.size, 0, none⟩) 1 1]).run Tryd.prog (((w3.setCell ⟨pb, 3, none⟩ y1).setCell ⟨hb, h, none⟩ (.int .i64 (n : Nat))).alloc (.cells #[.pointer (some ⟨xb, 0, none⟩)] 129)).drew = .ok y3 w5 := by rw [hy3]; exact r3
      rw [hkv, z3, hW3] at r4
      have hrun4 : (AppS #[37, 37] 37 #[.slice ka n kc, .slice (some ⟨w5.heap.size, 0, none⟩) 1 1]).run Tryd.prog ((w5.setCell ⟨pb, 0, none⟩ y3).alloc (.cells #[.slice la l.length lc] 23)) = .ok y4 w6 := by rw [hy4]; exact r4
      obtain ⟨fu, hfu⟩ : ∃ b, d.full = b := ⟨_, rfl⟩
      rw [hfu] at HR p5 q5 s5
      have lpb : pb < wr.heap.size := lt_of_cell e3
      have lhb : hb < wr.heap.size := lt_of_cell eh
      clear F0 F1 F1d F2 F3 F4 F5 G1 G3 G4 M0 M1 M3 M4 N1 N1d N2 N3 N4 N5 hbd1 hbd3 hbd4 r1 r3 r4 o1 o3 o4 k1 k3 k4 a1 a3 a4 hW2 hW3 z2 z3 hsv hkv hsv' hkv' hhv hbv pk1 pk3 hk1 pb4 hB2 hB3 hsl hkl hbl hS0 HNO2 hfu
      subst hy1 hy3 hy4
      clear HX HSP HHD HKL HI1 HLX hLI hBW
      have ed : decide (4000 < n + 1) = decide ((4000 : Int) < (n : Int) + 1) := by
        by_cases hc : 4000 < n + 1
        · rw [decide_eq_true hc, decide_eq_true (by omega)]
        · rw [decide_eq_false hc, decide_eq_false (by omega)]
      rw [ed] at HR
      clear ed
      cases fu with
      | true =>
        rw [Bool.true_or] at HR
        go_wp2
        go_region
        all_goals go_wp2
        all_goals go_region
        all_goals go_wp2
        all_goals go_end0
        all_goals exact HR.out
      | false =>
        rw [Bool.false_or] at HR
        go_wp2
        go_region
        all_goals go_wp2
        all_goals go_region
        all_goals go_wp2
        all_goals go_end0
        all_goals exact HR.out

end Go.Proofs.YtocfocjnnjdcgaaDoor
