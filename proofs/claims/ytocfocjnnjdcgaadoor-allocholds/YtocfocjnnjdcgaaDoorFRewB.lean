/-
  Orders anew, by a method of a value of one's own.
-/
import Derived.Test.YtocfocjnnjdcgaaDoorRDo4
namespace Go.Proofs.YtocfocjnnjdcgaaDoor
open Go.RowKit

attribute [local go_sem ↓] appS_eq in
set_option maxRecDepth 100000 in
set_option maxHeartbeats 9600000 in
theorem rewrite_bnd (w : World) (ca : Option Addr) (n cc : Nat) (wa : Option Addr) (words : List Int) (wc : Nat) (lk rg : Int) (fid : Nat) (bv : Value) (A : Nat → Option Addr) (L C : Nat → Nat) (X : Nat → Nat → Nat → Int) (b : Nat → Nat → List I4) (hw : SIs w wa words) (hnil : wa = none → words = [] ∧ wc = 0) (hm : words.length ≤ 64) (hp : PIn w ca n A L C X) (hn : n ≤ 1000) (hL : ∀ t, t < n → L t ≤ 1000) (hbl : ∀ t i, t < n → i < L t → (b t i).length ≤ 4)
    (hk : ∀ t i x, t < n → i < L t → x ∈ b t i → (1 ≤ x.1 ∧ x.1 ≤ 18) ∧ (x.1 = 14 → 0 ≤ x.2.1 ∧ x.2.1 ≤ L t) ∧ (x.1 = 15 → 0 ≤ x.2.2.1 ∧ x.2.2.1 ≤ L t))
    (hfn : ∀ (xs : Array Value) (w : World), (callFunc fid xs).run Tryd.prog w = .ok (.enter fid xs) w)
    (hbec : ∀ V t i, Below w.heap.size w V → t < n → i < L t → Calls Tryd.prog fid #[bv, .int .i64 (t : Int), .int .i64 (i : Int)] V fun e w' => ∃ sa c, e = .returned (.slice sa (b t i).length c) ∧ SrcL w' sa (cellsT (b t i)) ∧ Below V.heap.size V w') :
    Calls Tryd.prog 39 #[prgV ca n cc wa words.length wc lk rg, .func (.func fid) #[bv] #[]] w fun e w' => ∃ (cv uv : Value) (tv : List Value), e = .returned (.agg #[cv, uv, .int .i64 lk, .int .i64 rg]) ∧ w'.ownsRow w.heap.size 36 1 cv n tv ∧ (∀ t, t < n → OwnC w' w.heap.size (tv.getD t nilV) (codeR (b t) (L t))) ∧ w'.ownsRow w.heap.size 3 1 uv words.length (intsV words) ∧ Below w.heap.size w w' := by
  obtain ⟨PB, hPB⟩ : ∃ o : Obj, o = .cells #[.slice ca n cc, .slice wa words.length wc, .int .i64 lk, .int .i64 rg] 25 := ⟨_, rfl⟩
  obtain ⟨RB, hRB⟩ : ∃ o : Obj, o = .cells #[nilV, nilV, .int .i64 0, .int .i64 0] 25 := ⟨_, rfl⟩
  obtain ⟨mw, hmw⟩ : ∃ k, words.length = k := ⟨_, rfl⟩
  have HCL : Hid (∀ V, Below w.heap.size w V → Calls Tryd.prog 58 #[.slice wa mw wc] V fun e w' => ∃ a cap, e = .returned (.slice a mw cap) ∧ Hid (w'.ownsRow V.heap.size 3 1 (.slice a mw cap) mw (intsV words) ∧ Below V.heap.size V w')) := fun V hV => by
    have := clone_any V wa words wc (hw.below hV) hnil (by omega)
    rw [hmw] at this
    exact this
  have hb0 : Below w.heap.size w ((w.alloc PB).alloc RB) := ((Below.refl _ _).alloc (Nat.le_refl _) _).alloc (by simp) _
  have hp0 : ((w.alloc PB).alloc RB).heap[w.heap.size]? = some PB := box_later (heap_alloc_new _ _) _
  have HAT : Hid (∀ V, Below ((w.alloc PB).alloc RB).heap.size ((w.alloc PB).alloc RB) V → Below w.heap.size w V ∧ V.cell? ⟨w.heap.size, 0, none⟩ = some (.slice ca n cc) ∧ V.cell? ⟨w.heap.size, 1, none⟩ = some (.slice wa mw wc) ∧ V.cell? ⟨w.heap.size, 2, none⟩ = some (.int .i64 lk) ∧ V.cell? ⟨w.heap.size, 3, none⟩ = some (.int .i64 rg)) := fun V hb => by
    have e1 := (hb.block w.heap.size (by simp; omega)).trans hp0
    rw [hPB] at e1
    rw [← hmw]
    exact ⟨hb0.trans (hb.mono hb0.size), box_cell e1 rfl, box_cell e1 rfl, box_cell e1 rfl, box_cell e1 rfl⟩
  have HRB : Hid (∀ V, Below ((w.alloc PB).alloc RB).heap.size ((w.alloc PB).alloc RB) V → V.heap[w.heap.size + 1]? = some (.cells #[nilV, nilV, .int .i64 0, .int .i64 0] 25)) := fun V hb => by
    rw [hb.block (w.heap.size + 1) (by simp), ← hRB]
    have := heap_alloc_new (w.alloc PB) RB
    simpa using this
  obtain ⟨W0, hW0⟩ : ∃ V, (w.alloc PB).alloc RB = V := ⟨_, rfl⟩
  rw [hW0] at HRB
  rw [hW0] at HAT
  have hz0 : w.heap.size + 2 = W0.heap.size := by rw [← hW0]; simp
  have HW0 : Hid ((w.alloc (.cells #[.slice ca n cc, .slice wa mw wc, .int .i64 lk, .int .i64 rg] 25)).alloc (.cells #[nilV, nilV, .int .i64 0, .int .i64 0] 25) = W0) := by rw [← hW0, hPB, hRB, hmw]; exact rfl
  obtain ⟨hw0, p0, p1, p2, p3⟩ := HAT.out W0 (Below.refl _ _)
  rw [hmw]
  have HMW : Hid (words.length = mw) := hmw
  have HPR : Hid (PIn w ca n A L C X) := hp
  have HBE := Hid.out (p := Hid _) hbec
  have HKB := Hid.out (p := Hid _) hk
  have HLB := Hid.out (p := Hid _) (And.intro hL hbl)
  clear hPB hRB hb0 hp0 hW0 hw hnil hmw hw0 hp hbec hk hL hbl
  have HC1 : Hid (Calls Tryd.prog 58 #[.slice wa mw wc] W0.drew fun e w' => ∃ a cap, e = .returned (.slice a mw cap) ∧ Hid (w'.ownsRow W0.heap.size 3 1 (.slice a mw cap) mw (intsV words) ∧ Below W0.heap.size W0 w') ∧ w'.cell? ⟨w.heap.size, 0, none⟩ = some (.slice ca n cc) ∧ w'.cell? ⟨w.heap.size, 1, none⟩ = some (.slice wa mw wc) ∧ w'.cell? ⟨w.heap.size, 2, none⟩ = some (.int .i64 lk) ∧ w'.cell? ⟨w.heap.size, 3, none⟩ = some (.int .i64 rg)) := by
    refine Calls.mono (HCL.out W0.drew (HAT.out _ (Below.refl _ _).drew).1) ?_
    rintro e w' ⟨a, cap, he, H1⟩
    have hb : Below W0.heap.size W0 w' := (Below.refl _ _).drew.trans H1.out.2
    exact ⟨a, cap, he, ⟨H1.out.1, hb⟩, (HAT.out w' hb).2⟩
  have HC2 : Hid (Calls Tryd.prog 58 #[.slice wa mw wc] (W0.alloc (.cells #[nilV, nilV, .int .i64 0, .int .i64 0] 25)).drew fun e w' => ∃ a cap, e = .returned (.slice a mw cap) ∧ Hid (w'.ownsRow (W0.heap.size + 1) 3 1 (.slice a mw cap) mw (intsV words) ∧ Below W0.heap.size W0 w' ∧ w'.heap[W0.heap.size]? = some (.cells #[nilV, nilV, .int .i64 0, .int .i64 0] 25)) ∧ (w'.cell? ⟨w.heap.size, 0, none⟩ = some (.slice ca n cc) ∧ w'.cell? ⟨w.heap.size, 1, none⟩ = some (.slice wa mw wc) ∧ w'.cell? ⟨w.heap.size, 2, none⟩ = some (.int .i64 lk) ∧ w'.cell? ⟨w.heap.size, 3, none⟩ = some (.int .i64 rg)) ∧ (w'.cell? ⟨W0.heap.size, 0, none⟩ = some nilV ∧ w'.cell? ⟨W0.heap.size, 1, none⟩ = some nilV ∧ w'.cell? ⟨W0.heap.size, 2, none⟩ = some (.int .i64 0) ∧ w'.cell? ⟨W0.heap.size, 3, none⟩ = some (.int .i64 0)) ∧ (∀ i, w'.frozen? ⟨W0.heap.size, i, none⟩ = false) ∧ W0.heap.size < w'.heap.size) := by
    have hb0 : Below W0.heap.size W0 (W0.alloc (.cells #[nilV, nilV, .int .i64 0, .int .i64 0] 25)).drew := ((Below.refl _ _).alloc (Nat.le_refl _) _).drew
    refine Calls.mono (HCL.out _ (HAT.out _ hb0).1) ?_
    rintro e w' ⟨a, cap, he, H1⟩
    have hz : W0.heap.size ≤ (W0.alloc (.cells #[nilV, nilV, .int .i64 0, .int .i64 0] 25)).drew.heap.size := hb0.size
    have hb : Below W0.heap.size W0 w' := hb0.trans (H1.out.2.mono hz)
    have hq : w'.heap[W0.heap.size]? = some (.cells #[nilV, nilV, .int .i64 0, .int .i64 0] 25) := (H1.out.2.block _ (box_lt (alloc_drew W0 _))).trans (alloc_drew W0 _)
    exact ⟨a, cap, he, ⟨own_low H1.out.1 (by have : (W0.alloc (.cells #[nilV, nilV, .int .i64 0, .int .i64 0] 25)).drew.heap.size = W0.heap.size + 1 := World.size_alloc _ _; omega), hb, hq⟩, (HAT.out w' hb).2, ⟨box_cell hq rfl, box_cell hq rfl, box_cell hq rfl, box_cell hq rfl⟩, fun i => box_free hq, box_lt hq⟩
  clear HCL
  go_enter Tryd.func39, Tryd.ntmps39
  go_wp2
  rw [HW0.out]
  go_region_held3 (fun w' => w'.cell? ⟨w.heap.size, 0, none⟩ = some (.slice ca n cc) ∧ w'.cell? ⟨w.heap.size, 1, none⟩ = some (.slice wa mw wc) ∧ w'.cell? ⟨w.heap.size, 2, none⟩ = some (.int .i64 lk) ∧ w'.cell? ⟨w.heap.size, 3, none⟩ = some (.int .i64 rg)) (refine ⟨?_, ?_, ?_, ?_⟩ <;> (repeat (first | (with_reducible assumption) | (with_reducible refine cell_drw ?_) | (with_reducible refine cell_up ?_ _) | (with_reducible refine cell_far4 ?_ (by omega))))) ((go_at_call 58; first | (with_reducible refine Calls.mono HC1.out ?_; rintro e w1 ⟨a, cap, rfl, H1, j0, j1, j2, j3⟩) | (with_reducible refine Calls.mono HC2.out ?_; rintro e w1 ⟨a, cap, rfl, H1, ⟨j0, j1, j2, j3⟩, ⟨q0, q1, q2, q3⟩, qf, hz1⟩)))
  rotate_left
  · have HR : Hid (RwI W0 W0.heap.size (.slice a mw cap) words lk rg b L 0 ((((w1.setCell ⟨W0.heap.size, 0, none⟩ nilV).setCell ⟨W0.heap.size, 1, none⟩ (.slice a mw cap)).setCell ⟨W0.heap.size, 2, none⟩ (.int .i64 lk)).setCell ⟨W0.heap.size, 3, none⟩ (.int .i64 rg)) nilV []) := by
      have hne : (Value.slice a mw cap).ownBlock ≠ some W0.heap.size := fun e => by have := (H1.out.1.lt _ e).1; omega
      have hle := Nat.le_refl W0.heap.size
      refine ⟨(((H1.out.2.1.setCell hle _).setCell hle _).setCell hle _).setCell hle _, hle, ?_, ?_, hne, World.ownsRow_nil _ _ _ _, by simp [Value.ownBlock], fun g _ e => by simp [Value.ownBlock] at e, fun t ht => absurd ht (by omega)⟩
      · rw [heap_set_same (heap_set_same (heap_set_same (heap_set_same H1.out.2.2)))]
        rfl
      · rw [HMW.out]
        exact owns_far (owns_far (owns_far (owns_far (own_low H1.out.1 (by omega)) hne) hne) hne) hne
    obtain ⟨qb, hqb⟩ : ∃ q, W0.heap.size = q := ⟨_, rfl⟩
    have HQB : Hid (W0.heap.size = qb) := hqb
    obtain ⟨W, hW⟩ : ∃ V, (((w1.setCell ⟨W0.heap.size, 0, none⟩ nilV).setCell ⟨W0.heap.size, 1, none⟩ (.slice a mw cap)).setCell ⟨W0.heap.size, 2, none⟩ (.int .i64 lk)).setCell ⟨W0.heap.size, 3, none⟩ (.int .i64 rg) = V := ⟨_, rfl⟩
    rw [hW] at HR
    rw [hW]
    obtain ⟨qp, hqp⟩ : ∃ q : Value, .pointer (some ⟨W0.heap.size, 0, none⟩) = q := ⟨_, rfl⟩
    rw [hqp]
    rw [hqb] at hqp
    rw [← hqp]
    have HR' : Hid (RwI W0 qb (.slice a mw cap) words lk rg b L 0 W nilV []) := by rw [← hqb]; exact HR.out
    clear HR hqp
    have HR := HR'
    clear HR'
    clear hW hqb HC1 HC2 H1 j0 j1 j2 j3 p0 p1 p2 p3 q0 q1 q2 q3 qf hz1
    obtain ⟨hwW, p0, p1, p2, p3⟩ := HAT.out W HR.out.low
    have HW9 : Hid (∀ V, Below W0.heap.size W0 V → Below w.heap.size w V) := fun V hV => (HAT.out V hV).1
    clear p1 p2 p3 HAT
    go_wp2
    clear p0
    go_loopw [22] (fun i wr => ∃ (k : Nat) (va : Option Addr) (vc : Nat) (tv : List Value), k ≤ n ∧ i = .int .i64 k ∧ Hid (RwI W0 qb (.slice a mw cap) words lk rg b L k wr (.slice va k vc) tv)) (fun i _ => n - (intOf i).toNat)
    case atStart => exact ⟨0, none, 0, [], Nat.zero_le _, rfl, HR⟩
    case round =>
      obtain ⟨k, va, vc, tv, hk, rfl, HL⟩ := hrel
      clear HR hwW
      by_cases hlt : k < n
      · have hwr : Below w.heap.size w wr := HW9.out wr HL.out.low
        obtain ⟨cb, co, rfl, hcell⟩ := (HPR.out.below hwr).code k hlt
        obtain ⟨l, hl⟩ : ∃ l, L k = l := ⟨_, rfl⟩
        rw [hl] at hcell
        have hl4 : l ≤ 1000 := by rw [← hl]; exact HLB.out.1 k hlt
        have HLK : Hid (L k = l) := hl
        have HWR : Hid (Below w.heap.size w wr) := hwr
        clear hl hwr
        go_wp2
        clear hcell
        obtain ⟨S, rfl⟩ : ∃ V, V = wr := ⟨_, rfl⟩
        go_loopw [8, 9, 29] (fun cd pv iv wi => ∃ (j : Nat) (ca2 : Option Addr) (cl c2 : Nat) (pa2 : Option Addr) (pc2 : Nat), j ≤ l ∧ iv = .int .i64 j ∧ cd = .slice ca2 cl c2 ∧ pv = .slice pa2 j pc2 ∧ cl ≤ 4 * j ∧ Hid (cl = plR (b k) j ∧ InI S (b k) j j wi (.slice ca2 cl c2) (.slice pa2 j pc2))) (fun _ _ iv _ => l - (intOf iv).toNat)
        case atStart => exact ⟨0, none, 0, 0, none, 0, Nat.zero_le _, rfl, rfl, rfl, by omega, rfl, InI.start _ _⟩
        case round =>
          obtain ⟨j, ca2, cl, c2, pa2, pc2, hj, rfl, rfl, rfl, hcl, HI⟩ := hrel
          by_cases hjl : j < l
          · obtain ⟨g3, cap3, w3, hrun3, HI3', hb3⟩ := HI.out.2.place (Below.refl _ _) HI.out.1 (by omega)
            have HI3 := Hid.out (p := Hid _) HI3'
            have HB3 : Hid (Below w.heap.size w w3) := HWR.out.trans (hb3.mono HWR.out.size)
            clear HI3' hb3
            go_wp2_with fail
            refine Calls.mono (HBE.out w3 k j HB3.out hlt (by rw [HLK.out]; exact hjl)) ?_
            rintro e w4 ⟨sa, c, rfl, hs4, hb4⟩
            have hbl2 := HLB.out.2 k j hlt (by rw [HLK.out]; exact hjl)
            obtain ⟨v5, w5, hrun5, hI5, _⟩ := HI3.out.more hb4 sa c hs4 (by rw [← HI.out.1]; omega)
            obtain ⟨a5, c5, e5⟩ := fam_form hI5.code
            rw [raw_len] at e5
            have hpl5 : plR (b k) (j + 1) = cl + (b k j).length := by rw [plR, HI.out.1]
            rw [hpl5] at e5
            subst e5
            have HI5 : Hid (cl + (b k j).length = plR (b k) (j + 1) ∧ InI S (b k) (j + 1) (j + 1) w5 (.slice a5 (cl + (b k j).length) c5) (.slice (some ⟨g3, 0, none⟩) (j + 1) cap3)) := ⟨hpl5.symm, hI5⟩
            have hle : cl + (b k j).length ≤ 4 * (j + 1) := by omega
            clear hI5 hpl5 hs4 hb4 hbl2
            go_wp2_with fail
            go_roundw
            case rel => exact ⟨j + 1, _, _, _, _, _, by omega, by go_num, rfl, rfl, hle, HI5⟩
            case measure => simp [intOf]; omega
          · have hjl' : j = l := by omega
            subst hjl'
            obtain ⟨g3, cap3, w3, hrun3, HI3', hb3⟩ := HI.out.2.place (Below.refl _ _) HI.out.1 (by omega)
            have HI3 := Hid.out (p := Hid _) HI3'
            clear HI3' hb3
            have HLE : Hid (∀ pc, Calls Tryd.prog 59 #[.slice ca2 cl c2, .slice (some ⟨g3, 0, none⟩) (j + 1) pc] w3 fun e w' => e = .returned (.tuple #[]) ∧ OwnC w' S.heap.size (.slice ca2 cl c2) (codeR (b k) (L k)) ∧ w3.grownBy w' (Value.slice ca2 cl c2).ownBlock) := fun pc => by
              have h0 := HI3.out
              have hps := h0.sis (a := some ⟨g3, 0, none⟩) rfl
              have hln : ((List.range (j + 1)).map fun i => (plR (b k) i : Int)).length = j + 1 := by simp
              have h1 := lead_own w3 S.heap.size (.slice ca2 cl c2) (rawR (b k) j) (plR (b k)) (some ⟨g3, 0, none⟩) pc _ h0.code hps (fun q o e hq => by
                have : g3 = q := by simpa using congrArg (fun z => z.map Addr.block) e
                exact h0.apart q hq (by simp [Value.ownBlock, this])) (fun i hi => by
                have hi' : i < j + 1 := by rw [← hln]; exact hi
                simp [List.getD, hi']) (fun x hx => by
                obtain ⟨i, hi, hm⟩ := raw_mem hx
                exact (HKB.out k i x hlt (by rw [HLK.out]; exact hi) hm).1) (fun x hx he => by
                obtain ⟨i, hi, hm⟩ := raw_mem hx
                have := (HKB.out k i x hlt (by rw [HLK.out]; exact hi) hm).2.1 he
                rw [HLK.out] at this
                rw [hln]
                omega) (fun x hx he => by
                obtain ⟨i, hi, hm⟩ := raw_mem hx
                have := (HKB.out k i x hlt (by rw [HLK.out]; exact hi) hm).2.2 he
                rw [HLK.out] at this
                rw [hln]
                omega) (by rw [raw_len, ← HI.out.1]; omega)
              rw [hln] at h1
              rw [HLK.out]
              exact h1
            go_wp2_with fail
            refine Calls.mono (HLE.out _) ?_
            rintro e w7 ⟨rfl, ho7, hg7⟩
            have hb7 : Below S.heap.size S w7 := HI3.out.low.grown hg7 HI3.out.low.size (fun q hq => (HI3.out.code.lt q hq).1)
            obtain ⟨g8, cap8, w8, hrun8, hbx8, hb8, hR8⟩ := HL.out.push hb7 (Nat.le_refl _) ho7 (by omega)
            have hbx7 := (hb7.block qb (box_lt HL.out.box)).trans HL.out.box
            have x0 := box_cell (i := 0) hbx7 rfl
            have x8 := box_cell (i := 0) hbx8 rfl
            have xf8 : w8.frozen? ⟨qb, 0, none⟩ = false := box_free hbx8
            have HR8 := Hid.out (p := Hid _) hR8
            clear ho7 hg7 hb7 hbx8 hb8 hR8 hbx7
            go_wp2_with fail
            go_roundw
            case rel => exact ⟨k + 1, _, _, _, by omega, by go_num, HR8⟩
            case measure => simp [intOf]; omega
      · have hkn : k = n := by omega
        subst hkn
        have x0 := box_cell (i := 0) HL.out.box rfl
        have x1 := box_cell (i := 1) HL.out.box rfl
        have x2 := box_cell (i := 2) HL.out.box rfl
        have x3 := box_cell (i := 3) HL.out.box rfl
        have hrb := HRB.out wr HL.out.low
        have y0 := box_cell (i := 0) hrb rfl
        have y1 := box_cell (i := 1) hrb rfl
        have y2 := box_cell (i := 2) hrb rfl
        have y3 := box_cell (i := 3) hrb rfl
        have yf : ∀ i, wr.frozen? ⟨w.heap.size + 1, i, none⟩ = false := fun i => box_free hrb
        have hsz : w.heap.size + 1 < wr.heap.size := box_lt hrb
        have hlt1 : w.heap.size + 1 < W0.heap.size := by omega
        have HWW : Hid (Below w.heap.size w wr) := HW9.out wr HL.out.low
        clear hrb HRB HW0 HPR HBE HKB HLB
        go_wp2
        refine bodyPost_ret (v := .agg #[.slice va k vc, .slice a mw cap, .int .i64 lk, .int .i64 rg]) (by simp [results, Tryd.results39, go_sem, y0, y1, y2, y3]) rfl ?_
        have h1 := HL.out
        have hset : ∀ {e : TypeId} {size : Nat} {v : Value} {n : Nat} {xs : List Value}, wr.ownsRow W0.heap.size e size v n xs → ((((wr.setCell ⟨w.heap.size + 1, 0, none⟩ (.slice va k vc)).setCell ⟨w.heap.size + 1, 1, none⟩ (.slice a mw cap)).setCell ⟨w.heap.size + 1, 2, none⟩ (.int .i64 lk)).setCell ⟨w.heap.size + 1, 3, none⟩ (.int .i64 rg)).ownsRow w.heap.size e size v n xs := fun h => own_low (ownsRow_setCell_below (ownsRow_setCell_below (ownsRow_setCell_below (ownsRow_setCell_below h hlt1 _) hlt1 _) hlt1 _) hlt1 _) (by omega)
        refine ⟨_, _, tv, rfl, hset h1.code, fun t ht => hset (h1.thr t ht).1, ?_, ?_⟩
        · have := hset h1.words
          rw [HMW.out] at this
          exact this
        · have hw1 : w.heap.size ≤ w.heap.size + 1 := by omega
          exact (((HWW.out.setCell hw1 _).setCell hw1 _).setCell hw1 _).setCell hw1 _
  · have HR : Hid (RwI W0 w1.heap.size (.slice a mw cap) words lk rg b L 0 (w1.alloc (.cells #[nilV, .slice a mw cap, .int .i64 lk, .int .i64 rg] 25)) nilV []) :=
      ⟨H1.out.2.alloc H1.out.2.size _, H1.out.2.size, heap_alloc_new _ _, by rw [HMW.out]; exact owns_below2 H1.out.1 ((Below.refl _ _).alloc (Nat.le_refl _) _), fun e => by have := (H1.out.1.lt _ e).2; omega, World.ownsRow_nil _ _ _ _, by simp [Value.ownBlock], fun g _ e => by simp [Value.ownBlock] at e, fun t ht => absurd ht (by omega)⟩
    obtain ⟨qb, hqb⟩ : ∃ q, w1.heap.size = q := ⟨_, rfl⟩
    obtain ⟨W, hW⟩ : ∃ V, w1.alloc (.cells #[nilV, .slice a mw cap, .int .i64 lk, .int .i64 rg] 25) = V := ⟨_, rfl⟩
    rw [hW, hqb] at HR
    rw [hW, hqb]
    clear hW hqb HC1 HC2 H1 j0 j1 j2 j3 p0 p1 p2 p3
    obtain ⟨hwW, p0, p1, p2, p3⟩ := HAT.out W HR.out.low
    have HW9 : Hid (∀ V, Below W0.heap.size W0 V → Below w.heap.size w V) := fun V hV => (HAT.out V hV).1
    clear p1 p2 p3 HAT
    go_wp2
    clear p0
    go_loopw [22] (fun i wr => ∃ (k : Nat) (va : Option Addr) (vc : Nat) (tv : List Value), k ≤ n ∧ i = .int .i64 k ∧ Hid (RwI W0 qb (.slice a mw cap) words lk rg b L k wr (.slice va k vc) tv)) (fun i _ => n - (intOf i).toNat)
    case atStart => exact ⟨0, none, 0, [], Nat.zero_le _, rfl, HR⟩
    case round =>
      obtain ⟨k, va, vc, tv, hk, rfl, HL⟩ := hrel
      clear HR hwW
      by_cases hlt : k < n
      · have hwr : Below w.heap.size w wr := HW9.out wr HL.out.low
        obtain ⟨cb, co, rfl, hcell⟩ := (HPR.out.below hwr).code k hlt
        obtain ⟨l, hl⟩ : ∃ l, L k = l := ⟨_, rfl⟩
        rw [hl] at hcell
        have hl4 : l ≤ 1000 := by rw [← hl]; exact HLB.out.1 k hlt
        have HLK : Hid (L k = l) := hl
        have HWR : Hid (Below w.heap.size w wr) := hwr
        clear hl hwr
        go_wp2
        clear hcell
        obtain ⟨S, rfl⟩ : ∃ V, V = wr := ⟨_, rfl⟩
        go_loopw [8, 9, 29] (fun cd pv iv wi => ∃ (j : Nat) (ca2 : Option Addr) (cl c2 : Nat) (pa2 : Option Addr) (pc2 : Nat), j ≤ l ∧ iv = .int .i64 j ∧ cd = .slice ca2 cl c2 ∧ pv = .slice pa2 j pc2 ∧ cl ≤ 4 * j ∧ Hid (cl = plR (b k) j ∧ InI S (b k) j j wi (.slice ca2 cl c2) (.slice pa2 j pc2))) (fun _ _ iv _ => l - (intOf iv).toNat)
        case atStart => exact ⟨0, none, 0, 0, none, 0, Nat.zero_le _, rfl, rfl, rfl, by omega, rfl, InI.start _ _⟩
        case round =>
          obtain ⟨j, ca2, cl, c2, pa2, pc2, hj, rfl, rfl, rfl, hcl, HI⟩ := hrel
          by_cases hjl : j < l
          · obtain ⟨g3, cap3, w3, hrun3, HI3', hb3⟩ := HI.out.2.place (Below.refl _ _) HI.out.1 (by omega)
            have HI3 := Hid.out (p := Hid _) HI3'
            have HB3 : Hid (Below w.heap.size w w3) := HWR.out.trans (hb3.mono HWR.out.size)
            clear HI3' hb3
            go_wp2_with fail
            refine Calls.mono (HBE.out w3 k j HB3.out hlt (by rw [HLK.out]; exact hjl)) ?_
            rintro e w4 ⟨sa, c, rfl, hs4, hb4⟩
            have hbl2 := HLB.out.2 k j hlt (by rw [HLK.out]; exact hjl)
            obtain ⟨v5, w5, hrun5, hI5, _⟩ := HI3.out.more hb4 sa c hs4 (by rw [← HI.out.1]; omega)
            obtain ⟨a5, c5, e5⟩ := fam_form hI5.code
            rw [raw_len] at e5
            have hpl5 : plR (b k) (j + 1) = cl + (b k j).length := by rw [plR, HI.out.1]
            rw [hpl5] at e5
            subst e5
            have HI5 : Hid (cl + (b k j).length = plR (b k) (j + 1) ∧ InI S (b k) (j + 1) (j + 1) w5 (.slice a5 (cl + (b k j).length) c5) (.slice (some ⟨g3, 0, none⟩) (j + 1) cap3)) := ⟨hpl5.symm, hI5⟩
            have hle : cl + (b k j).length ≤ 4 * (j + 1) := by omega
            clear hI5 hpl5 hs4 hb4 hbl2
            go_wp2_with fail
            go_roundw
            case rel => exact ⟨j + 1, _, _, _, _, _, by omega, by go_num, rfl, rfl, hle, HI5⟩
            case measure => simp [intOf]; omega
          · have hjl' : j = l := by omega
            subst hjl'
            obtain ⟨g3, cap3, w3, hrun3, HI3', hb3⟩ := HI.out.2.place (Below.refl _ _) HI.out.1 (by omega)
            have HI3 := Hid.out (p := Hid _) HI3'
            clear HI3' hb3
            have HLE : Hid (∀ pc, Calls Tryd.prog 59 #[.slice ca2 cl c2, .slice (some ⟨g3, 0, none⟩) (j + 1) pc] w3 fun e w' => e = .returned (.tuple #[]) ∧ OwnC w' S.heap.size (.slice ca2 cl c2) (codeR (b k) (L k)) ∧ w3.grownBy w' (Value.slice ca2 cl c2).ownBlock) := fun pc => by
              have h0 := HI3.out
              have hps := h0.sis (a := some ⟨g3, 0, none⟩) rfl
              have hln : ((List.range (j + 1)).map fun i => (plR (b k) i : Int)).length = j + 1 := by simp
              have h1 := lead_own w3 S.heap.size (.slice ca2 cl c2) (rawR (b k) j) (plR (b k)) (some ⟨g3, 0, none⟩) pc _ h0.code hps (fun q o e hq => by
                have : g3 = q := by simpa using congrArg (fun z => z.map Addr.block) e
                exact h0.apart q hq (by simp [Value.ownBlock, this])) (fun i hi => by
                have hi' : i < j + 1 := by rw [← hln]; exact hi
                simp [List.getD, hi']) (fun x hx => by
                obtain ⟨i, hi, hm⟩ := raw_mem hx
                exact (HKB.out k i x hlt (by rw [HLK.out]; exact hi) hm).1) (fun x hx he => by
                obtain ⟨i, hi, hm⟩ := raw_mem hx
                have := (HKB.out k i x hlt (by rw [HLK.out]; exact hi) hm).2.1 he
                rw [HLK.out] at this
                rw [hln]
                omega) (fun x hx he => by
                obtain ⟨i, hi, hm⟩ := raw_mem hx
                have := (HKB.out k i x hlt (by rw [HLK.out]; exact hi) hm).2.2 he
                rw [HLK.out] at this
                rw [hln]
                omega) (by rw [raw_len, ← HI.out.1]; omega)
              rw [hln] at h1
              rw [HLK.out]
              exact h1
            go_wp2_with fail
            refine Calls.mono (HLE.out _) ?_
            rintro e w7 ⟨rfl, ho7, hg7⟩
            have hb7 : Below S.heap.size S w7 := HI3.out.low.grown hg7 HI3.out.low.size (fun q hq => (HI3.out.code.lt q hq).1)
            obtain ⟨g8, cap8, w8, hrun8, hbx8, hb8, hR8⟩ := HL.out.push hb7 (Nat.le_refl _) ho7 (by omega)
            have hbx7 := (hb7.block qb (box_lt HL.out.box)).trans HL.out.box
            have x0 := box_cell (i := 0) hbx7 rfl
            have x8 := box_cell (i := 0) hbx8 rfl
            have xf8 : w8.frozen? ⟨qb, 0, none⟩ = false := box_free hbx8
            have HR8 := Hid.out (p := Hid _) hR8
            clear ho7 hg7 hb7 hbx8 hb8 hR8 hbx7
            go_wp2_with fail
            go_roundw
            case rel => exact ⟨k + 1, _, _, _, by omega, by go_num, HR8⟩
            case measure => simp [intOf]; omega
      · have hkn : k = n := by omega
        subst hkn
        have x0 := box_cell (i := 0) HL.out.box rfl
        have x1 := box_cell (i := 1) HL.out.box rfl
        have x2 := box_cell (i := 2) HL.out.box rfl
        have x3 := box_cell (i := 3) HL.out.box rfl
        have hrb := HRB.out wr HL.out.low
        have y0 := box_cell (i := 0) hrb rfl
        have y1 := box_cell (i := 1) hrb rfl
        have y2 := box_cell (i := 2) hrb rfl
        have y3 := box_cell (i := 3) hrb rfl
        have yf : ∀ i, wr.frozen? ⟨w.heap.size + 1, i, none⟩ = false := fun i => box_free hrb
        have hsz : w.heap.size + 1 < wr.heap.size := box_lt hrb
        have hlt1 : w.heap.size + 1 < W0.heap.size := by omega
        have HWW : Hid (Below w.heap.size w wr) := HW9.out wr HL.out.low
        clear hrb HRB HW0 HPR HBE HKB HLB
        go_wp2
        refine bodyPost_ret (v := .agg #[.slice va k vc, .slice a mw cap, .int .i64 lk, .int .i64 rg]) (by simp [results, Tryd.results39, go_sem, y0, y1, y2, y3]) rfl ?_
        have h1 := HL.out
        have hset : ∀ {e : TypeId} {size : Nat} {v : Value} {n : Nat} {xs : List Value}, wr.ownsRow W0.heap.size e size v n xs → ((((wr.setCell ⟨w.heap.size + 1, 0, none⟩ (.slice va k vc)).setCell ⟨w.heap.size + 1, 1, none⟩ (.slice a mw cap)).setCell ⟨w.heap.size + 1, 2, none⟩ (.int .i64 lk)).setCell ⟨w.heap.size + 1, 3, none⟩ (.int .i64 rg)).ownsRow w.heap.size e size v n xs := fun h => own_low (ownsRow_setCell_below (ownsRow_setCell_below (ownsRow_setCell_below (ownsRow_setCell_below h hlt1 _) hlt1 _) hlt1 _) hlt1 _) (by omega)
        refine ⟨_, _, tv, rfl, hset h1.code, fun t ht => hset (h1.thr t ht).1, ?_, ?_⟩
        · have := hset h1.words
          rw [HMW.out] at this
          exact this
        · have hw1 : w.heap.size ≤ w.heap.size + 1 := by omega
          exact (((HWW.out.setCell hw1 _).setCell hw1 _).setCell hw1 _).setCell hw1 _

end Go.Proofs.YtocfocjnnjdcgaaDoor
