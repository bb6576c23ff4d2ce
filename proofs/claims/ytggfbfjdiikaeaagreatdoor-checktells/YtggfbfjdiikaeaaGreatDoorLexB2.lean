/-
  The program's Scan, of a text that is not too long.
-/
import Derived.Test.YtggfbfjdiikaeaaGreatDoorLexA9
import Derived.Test.YtggfbfjdiikaeaaGreatDoorLexZ5
import Derived.Deep.RegionWith
namespace Go.Proofs.YtggfbfjdiikaeaaGreatDoor
open Go.RowKit

/-- A round of the program's Scan: tokens at block b, the fault at b + 1, the scanner at b + 2. -/
structure SaI (w wr : World) (s : ByteArray) (R : List Tok × (Int × Int)) (lv : Value) (p f : Nat) (acc : List Tok) : Prop where
  fuel : s.size < p + f
  num : acc.length ≤ p
  pos : p ≤ s.size
  is : scanF f p (s.data.toList.drop p) acc = R
  tk : wr.heap[w.heap.size]? = some (.cells #[lv] 68)
  fl : wr.heap[w.heap.size + 1]? = some (.cells #[.int .i64 0, .int .i64 0, .int .i64 0] 25)
  sc : Sc wr (w.heap.size + 2) s p
  own : OwnT wr (w.heap.size + 3) lv acc
  low : Below w.heap.size w wr
  szs : w.heap.size + 3 ≤ wr.heap.size

theorem SaI.vars {w wr w1 : World} {s : ByteArray} {R : List Tok × (Int × Int)} {lv : Value} {p f : Nat} {acc : List Tok} (h : SaI w wr s R lv p f acc) (hg : wr.grownBy w1 (some (w.heap.size + 2))) :
    Vars w1 w.heap.size (w.heap.size + 1) lv (.int .i64 0) (.int .i64 0) (.int .i64 0) := by
  have hs := h.szs
  have h1 := (hg.block w.heap.size (by omega) (by simp)).trans h.tk
  have h2 := (hg.block (w.heap.size + 1) (by omega) (by simp)).trans h.fl
  exact ⟨box_cell h1 rfl, box_cell h2 rfl, box_cell h2 rfl, box_cell h2 rfl, box_free h1, fun i => box_free h2, by omega⟩
theorem SaI.lows {w wr w1 : World} {s : ByteArray} {R : List Tok × (Int × Int)} {lv : Value} {p f : Nat} {acc : List Tok} (h : SaI w wr s R lv p f acc) (hg : wr.grownBy w1 (some (w.heap.size + 2))) : Below w.heap.size w w1 :=
  h.low.grown hg h.low.size (fun k hk => by simp at hk; omega)

/-- One token more. -/
theorem SaI.push {w wr w2 : World} {s : ByteArray} {R : List Tok × (Int × Int)} {lv : Value} {p f : Nat} {acc : List Tok} (h : SaI w wr s R lv p f acc) (hg : wr.grownBy w2 (some (w.heap.size + 2))) {E m : Nat} {k v : Int} {x : ByteArray} (hS : Sc w2 (w.heap.size + 2) s (E + m))
    (his : scanF (f - 1) (E + m) (s.data.toList.drop (E + m)) (acc ++ [⟨k, v, (E : Int), x.data.toList⟩]) = R) (hm1 : 1 ≤ m) (hm2 : E + m ≤ s.size) (hpE : p ≤ E) (hs : s.size ≤ 4000) :
    ∃ g cap w3, (AppS #[68, 68] 68 #[lv, .slice (some ⟨w2.heap.size, 0, none⟩) 1 1]).run Tryz.prog (w2.alloc (.cells #[.int .i64 k, .int .i64 v, .int .i64 (E : Int), .string x] 98)) = .ok (.slice (some ⟨g, 0, none⟩) (acc.length + 1) cap) w3 ∧
      w3.cell? ⟨w.heap.size, 0, none⟩ = some lv ∧ w3.frozen? ⟨w.heap.size, 0, none⟩ = false ∧
      SaI w (w3.setCell ⟨w.heap.size, 0, none⟩ (.slice (some ⟨g, 0, none⟩) (acc.length + 1) cap)) s R (.slice (some ⟨g, 0, none⟩) (acc.length + 1) cap) (E + m) (f - 1) (acc ++ [⟨k, v, (E : Int), x.data.toList⟩]) := by
  have hsz := h.szs
  have hsz2 := hg.size
  have hown : OwnT w2 (w.heap.size + 3) lv acc := fam_keeps h.own (fun g hgv => hg.block g (h.own.lt g hgv).2 (by have := (h.own.lt g hgv).1; simp; omega))
  obtain ⟨g, cap, w3, r1, r2, r3⟩ := app_tok hown (Below.refl _ _) (by omega) ⟨k, v, (E : Int), x.data.toList⟩ (by have := h.num; have := h.pos; omega)
  have hfar : ∀ j, j < w.heap.size + 3 → w3.heap[j]? = w2.heap[j]? := fun j hj => by
    rw [r3.block j (by simp; omega) (fun e => by have := (hown.lt j e.symm).1; omega)]
    exact Below.heap_alloc _ _ _ (by omega)
  have htk : w3.heap[w.heap.size]? = some (.cells #[lv] 68) := (hfar _ (by omega)).trans ((hg.block w.heap.size (by omega) (by simp)).trans h.tk)
  have hfl : w3.heap[w.heap.size + 1]? = some (.cells #[.int .i64 0, .int .i64 0, .int .i64 0] 25) := (hfar _ (by omega)).trans ((hg.block (w.heap.size + 1) (by omega) (by simp)).trans h.fl)
  have hsc : Sc w3 (w.heap.size + 2) s (E + m) := (hfar _ (by omega)).trans hS
  have hlow : Below w.heap.size w w3 := app_tok_below hown (Below.refl _ _) r3 (by omega) (S := w2) (Below.refl _ _) |>.mono (by omega) |> (h.lows hg).trans
  have hs3 : w2.heap.size + 1 ≤ w3.heap.size := by have := r3.size; simpa using this
  refine ⟨g, cap, w3, r1, box_cell htk rfl, box_free htk, ⟨by have := h.fuel; omega, by have := h.num; simp; omega, hm2, his, ?_, ?_, ?_, ?_, hlow.setCell (Nat.le_refl _) _, ?_⟩⟩
  · simp only [World.setCell, Array.getElem?_modify, if_true, htk, Option.map_some]
    rfl
  · exact (Below.heap_setCell _ _ _ _ (by simp)).trans hfl
  · exact hsc.far (by simp) _
  · exact ownsRow_setCell_below r2 (by simp) _
  · simp only [World.setCell, Array.size_modify]
    omega

set_option maxRecDepth 100000 in
set_option maxHeartbeats 800000 in
theorem door_byte (w w1 : World) (E : Nat) (lv y0 y1 y4 y5 y6 y7 y8 y9 y10 y11 y12 y13 y14 : Value) (h : Vars w1 w.heap.size (w.heap.size + 1) lv (.int .i64 0) (.int .i64 0) (.int .i64 0)) (hb : Below w.heap.size w w1) :
    bodyPostD Tryz.prog Tryz.f61 (fun e w' => ScanQ w.heap.size ([], 4, (E : Int)) e w' ∧ Below w.heap.size w w') (.panic (badB E)) { tmps := #[y0, y1, .pointer (some ⟨w.heap.size, 0, none⟩), .pointer (some ⟨w.heap.size + 1, 0, none⟩), y4, y5, y6, y7, y8, y9, y10, y11, y12, y13, y14], defers := [{ target := .fn (.func 78) #[.pointer (some ⟨w.heap.size, 0, none⟩), .pointer (some ⟨w.heap.size + 1, 0, none⟩)], args := #[] }] } w1 := by
  refine leaves_cons (f := 78) (args := #[.pointer (some ⟨w.heap.size, 0, none⟩), .pointer (some ⟨w.heap.size + 1, 0, none⟩)]) (by simp) (by simp [go_sem]) ?_
  refine (catch_byte w.heap.size (w.heap.size + 1) E w1 _ _ _ _ h).mono ?_
  rintro e u' w'' ⟨rfl, rfl, rfl⟩
  refine ⟨.tuple #[nilV, .agg #[.int .i64 4, .int .i64 0, .int .i64 (E : Int)]], ?_, ⟨nilV, rfl, ownT_nil _ _⟩, (((hb.setCell (Nat.le_refl _) _).setCell (Nat.le_succ _) _).setCell (Nat.le_succ _) _).setCell (Nat.le_succ _) _⟩
  have t0 := h.t0
  have f0 := h.f0
  have f1 := h.f1
  have f2 := h.f2
  simp [results, Tryz.results61, go_sem, t0, f0, f1, f2]

set_option maxRecDepth 100000 in
set_option maxHeartbeats 800000 in
theorem door_token (w w1 : World) (E : Nat) (lv y0 y1 y4 y5 y6 y7 y8 y9 y10 y11 y12 y13 y14 : Value) (h : Vars w1 w.heap.size (w.heap.size + 1) lv (.int .i64 0) (.int .i64 0) (.int .i64 0)) (hb : Below w.heap.size w w1) :
    bodyPostD Tryz.prog Tryz.f61 (fun e w' => ScanQ w.heap.size ([], 5, (E : Int)) e w' ∧ Below w.heap.size w w') (.panic (badT E)) { tmps := #[y0, y1, .pointer (some ⟨w.heap.size, 0, none⟩), .pointer (some ⟨w.heap.size + 1, 0, none⟩), y4, y5, y6, y7, y8, y9, y10, y11, y12, y13, y14], defers := [{ target := .fn (.func 78) #[.pointer (some ⟨w.heap.size, 0, none⟩), .pointer (some ⟨w.heap.size + 1, 0, none⟩)], args := #[] }] } w1 := by
  refine leaves_cons (f := 78) (args := #[.pointer (some ⟨w.heap.size, 0, none⟩), .pointer (some ⟨w.heap.size + 1, 0, none⟩)]) (by simp) (by simp [go_sem]) ?_
  refine (catch_token w.heap.size (w.heap.size + 1) E w1 _ _ _ _ h).mono ?_
  rintro e u' w'' ⟨rfl, rfl, rfl⟩
  refine ⟨.tuple #[nilV, .agg #[.int .i64 5, .int .i64 0, .int .i64 (E : Int)]], ?_, ⟨nilV, rfl, ownT_nil _ _⟩, (((hb.setCell (Nat.le_refl _) _).setCell (Nat.le_succ _) _).setCell (Nat.le_succ _) _).setCell (Nat.le_succ _) _⟩
  have t0 := h.t0
  have f0 := h.f0
  have f1 := h.f1
  have f2 := h.f2
  simp [results, Tryz.results61, go_sem, t0, f0, f1, f2]

theorem LEnv.low {w w' : World} (h : LEnv w) (hb : Below w.heap.size w w') : LEnv w' := h.below hb

attribute [local go_sem ↓] appS_eq

set_option maxRecDepth 100000 in
set_option maxHeartbeats 3200000 in
theorem scanAll_any (s : ByteArray) (hs : s.size ≤ 4000) (R : List Tok × (Int × Int)) (HR : Hid (scanL s.data.toList = R)) (w : World) (hE : LEnv w) :
    Calls Tryz.prog 61 #[.string s] w fun e w' => ScanQ w.heap.size R e w' ∧ Below w.heap.size w w' := by
  have hmf : ∀ (fn : Fn) (first cap : Array Value) (w : World), (Instr.makeFunc fn first cap).run Tryz.prog w = .ok (.func fn first cap) w := fun _ _ _ _ => rfl
  obtain ⟨S, hS⟩ : ∃ V, ((w.alloc (.cells #[.slice none 0 0] 68)).alloc (.cells #[.int .i64 0, .int .i64 0, .int .i64 0] 25)).alloc (.cells #[.string s, .int .i64 0] 127) = V := ⟨_, rfl⟩
  have HI0 : Hid (SaI w S s R nilV 0 (s.size + 1) []) := by
    have hb : Below w.heap.size w S := by rw [← hS]; exact (((Below.refl _ _).alloc (Nat.le_refl _) _).alloc (by simp) _).alloc (by simp; omega) _
    refine ⟨by omega, by simp, by omega, ?_, ?_, ?_, ?_, ownT_nil _ _, hb, ?_⟩
    · have := HR.out
      unfold scanL at this
      rw [if_neg (by rw [← Lib.size_eq]; omega)] at this
      rw [← this, List.drop_zero, ← Lib.size_eq]
    · rw [← hS]; exact box_later (box_later (heap_alloc_new _ _) _) _
    · rw [← hS]
      have e : w.heap.size + 1 = (w.alloc (.cells #[.slice none 0 0] 68)).heap.size := by simp
      rw [e]; exact box_later (heap_alloc_new _ _) _
    · unfold Sc
      rw [← hS]
      have e : w.heap.size + 2 = ((w.alloc (.cells #[.slice none 0 0] 68)).alloc (.cells #[.int .i64 0, .int .i64 0, .int .i64 0] 25)).heap.size := by simp
      rw [e]; exact heap_alloc_new _ _
    · rw [← hS]; simp
  have HSE := Hid.out (p := Hid _) hS
  have hNG : 6 ≤ w.heap.size + 2 := by have := hE.sz; omega
  have HEW := Hid.out (p := Hid _) hE
  clear hS hE
  go_enter_defers Tryz.func61, Tryz.ntmps61
  go_wp2_with fail
  rw [HSE.out]
  go_loopw [8] (fun _ wr => ∃ (lv : Value) (p f : Nat) (acc : List Tok), Hid (SaI w wr s R lv p f acc)) (fun _ wr => s.size - atOf wr (w.heap.size + 2))
  case atStart => exact ⟨_, 0, s.size + 1, [], HI0⟩
  case round =>
    obtain ⟨lv, p, f, acc, HI⟩ := hrel
    obtain ⟨⟨E, B⟩, hEB⟩ : ∃ x, skAt s false p = x := ⟨_, rfl⟩
    have HEB : Hid (skAt s false p = (E, B)) := hEB
    have hf : f = f - 1 + 1 := by have := HI.out.fuel; have := HI.out.pos; omega
    have HF : Hid (f = f - 1 + 1) := hf
    clear hEB hf
    go_wp2_with fail
    refine Calls.mono (toTok_any (w.heap.size + 2) s hs p HI.out.pos E B HEB _ HI.out.sc) ?_
    rintro e w1 ⟨hg1, hq⟩
    have HG1 : Hid (wr.grownBy w1 (some (w.heap.size + 2))) := hg1
    have HB4 : Hid (B = true → R = ([], 4, (E : Int))) := fun hB => by
      have h1 := HI.out.is
      rw [HF.out] at h1
      exact h1.symm.trans (scanF_bad (by rw [HEB.out, hB]))
    rcases hq with ⟨rfl, hS1, hst⟩ | ⟨rfl, hB⟩
    · by_cases hlt : E < s.size
      · have hdec : decide (E < s.size) = true := by simpa using hlt
        rw [hdec]
        cases B with
        | true =>
          simp only [Stand, if_true] at hst
          obtain ⟨_, hc⟩ := hst
          have hv := HI.out.vars hg1
          have t0 := hv.t0
          have HS1 : Hid (Sc w1 (w.heap.size + 2) s E) := hS1
          clear hg1 hS1 hv
          go_wp2_with fail
          obtain rfl := HB4.out trivial
          refine wp_region_any (by kernel_rfl) ?_
          change wpAny _ _ _ _ _ _ _ (World.drew _)
          refine wpAny_ready (rs := [0, 1]) (by kernel_rfl) (by simp) ?_
          refine AllReady.cons rfl (fun K hK => ?_) (AllReady.cons rfl (fun K hK => ?_) AllReady.nil)
          · go_simp
            refine hK _ _ ?_
            clear hK K
            refine wpAny_ready (rs := [1]) (by kernel_rfl) (by simp) ?_
            refine AllReady.cons rfl (fun K hK => ?_) AllReady.nil
            go_simp
            refine (token_bad (w.heap.size + 2) s E hlt hc _ (HS1.out.below (Below.refl _ _).drew)).mono ?_
            rintro e w2 ⟨rfl, hg2⟩
            have hg3 := grown_then HG1.out (grown_then (grown_of_below (Below.refl _ _).drew _) hg2)
            exact door_byte w w2 E lv _ _ _ _ _ _ _ _ _ _ _ _ _ (HI.out.vars hg3) (HI.out.lows hg3)
          · go_simp
            refine (token_bad (w.heap.size + 2) s E hlt hc _ (HS1.out.below (Below.refl _ _).drew)).mono ?_
            rintro e w2 ⟨rfl, hg2⟩
            have hg3 := grown_then HG1.out (grown_then (grown_of_below (Below.refl _ _).drew _) hg2)
            exact door_byte w w2 E lv _ _ _ _ _ _ _ _ _ _ _ _ _ (HI.out.vars hg3) (HI.out.lows hg3)
        | false =>
          simp only [Stand, Bool.false_eq_true, if_false] at hst
          have hc := hst hlt
          have hv := HI.out.vars hg1
          have t0 := hv.t0
          have tz := hv.tz
          have HS1 : Hid (Sc w1 (w.heap.size + 2) s E) := hS1
          have HEN1 : Hid (LEnv w1) := HEW.out.low (HI.out.lows hg1)
          clear hg1 hS1 hv hst
          cases ho : oneL (s.data.toList.drop E) with
          | none =>
            obtain rfl : R = ([], 5, (E : Int)) := by
              have h1 := HI.out.is
              rw [HF.out] at h1
              exact h1.symm.trans (scanF_none HEB.out hlt ho)
            go_wp2_with fail
            refine wp_region_any (by kernel_rfl) ?_
            change wpAny _ _ _ _ _ _ _ (World.drew _)
            refine wpAny_ready (rs := [0, 1]) (by kernel_rfl) (by simp) ?_
            refine AllReady.cons rfl (fun K hK => ?_) (AllReady.cons rfl (fun K hK => ?_) AllReady.nil)
            · go_simp
              refine hK _ _ ?_
              clear hK K
              refine wpAny_ready (rs := [1]) (by kernel_rfl) (by simp) ?_
              refine AllReady.cons rfl (fun K hK => ?_) AllReady.nil
              go_simp
              refine (token_any (w.heap.size + 2) s hs E hlt hc _ (HS1.out.below (Below.refl _ _).drew) (HEN1.out.below (Below.refl _ _).drew) hNG).mono ?_
              rintro e w2 ⟨hg2, hq2⟩
              rw [ho] at hq2
              obtain rfl := hq2
              have hg3 := grown_then HG1.out (grown_then (grown_of_below (Below.refl _ _).drew _) hg2)
              exact door_token w w2 E lv _ _ _ _ _ _ _ _ _ _ _ _ _ (HI.out.vars hg3) (HI.out.lows hg3)
            · go_simp
              refine (token_any (w.heap.size + 2) s hs E hlt hc _ (HS1.out.below (Below.refl _ _).drew) (HEN1.out.below (Below.refl _ _).drew) hNG).mono ?_
              rintro e w2 ⟨hg2, hq2⟩
              rw [ho] at hq2
              obtain rfl := hq2
              have hg3 := grown_then HG1.out (grown_then (grown_of_below (Below.refl _ _).drew _) hg2)
              exact door_token w w2 E lv _ _ _ _ _ _ _ _ _ _ _ _ _ (HI.out.vars hg3) (HI.out.lows hg3)
          | some x =>
            obtain ⟨k, v, m⟩ := x
            obtain ⟨hm1, hm2⟩ := oneL_at hlt ho
            obtain ⟨x, hx⟩ : ∃ x : ByteArray, s.extract E (E + m) = x := ⟨_, rfl⟩
            have hxl : x.data.toList = (s.data.toList.drop E).take m := by rw [← hx, ext_list, Nat.add_sub_cancel_left]
            have hpE : p ≤ E := by have := skAt_le (s := s) (k := p) false HI.out.pos; rw [HEB.out] at this; exact this.1
            have HIS : Hid (scanF (f - 1) (E + m) (s.data.toList.drop (E + m)) (acc ++ [⟨k, v, (E : Int), x.data.toList⟩]) = R) := by
              have h3 := HI.out.is
              rw [HF.out] at h3
              show _ = _
              rw [← h3, scanF_more HEB.out hlt ho, hxl]
            have HX := Hid.out (p := Hid _) hx
            have HO := Hid.out (p := Hid _) ho
            have HLT : Hid (w.heap.size < w1.heap.size) := by have := HI.out.szs; have := HG1.out.size; show _ < _; omega
            clear hx hxl ho
            go_wp2_with fail
            go_region_with (go_at_call 80; refine (token_any (w.heap.size + 2) s hs E hlt hc _ (HS1.out.below (Below.refl _ _).drew) (HEN1.out.below (Below.refl _ _).drew) hNG).mono ?_; rintro e w2 ⟨hg2, hq2⟩; rw [HO.out] at hq2; simp only [HX.out] at hq2; obtain ⟨rfl, hS2⟩ := hq2; have hg3 := grown_then HG1.out (grown_then (grown_of_below (Below.refl _ _).drew _) hg2); have hI2 := HI.out.push hg3 hS2 HIS.out hm1 hm2 hpE hs; obtain ⟨g, cap, w3, r1, t3, z3, hI3⟩ := hI2; have t2 : w2.cell? ⟨w.heap.size, 0, none⟩ = some lv := (hg2.cell_far ⟨w.heap.size, 0, none⟩ HLT.out (by simp)).trans t0; have hl2 : w.heap.size < w2.heap.size := Nat.lt_of_lt_of_le HLT.out hg2.size; have HI3 := Hid.out (p := Hid _) hI3; clear hI3 hg3 hS2 hg2)
            all_goals
              have ha := HI3.out.sc.at
              have ha2 := HI.out.sc.at
              go_wp2_with fail
              go_roundw
              case rel => exact ⟨_, E + m, f - 1, _, HI3⟩
              case measure => rw [ha, ha2]; omega
      · have hdec : decide (E < s.size) = false := by simpa using hlt
        rw [hdec]
        have hB : B = false := by
          cases B with
          | false => rfl
          | true => simp only [Stand, if_true] at hst; obtain ⟨h2, _⟩ := hst; exact absurd h2 hlt
        obtain rfl : R = (acc, 0, 0) := by
          have h1 := HI.out.is
          rw [HF.out] at h1
          exact h1.symm.trans (scanF_end (by rw [HEB.out, hB]) (by omega))
        obtain ⟨la, lc, rfl⟩ := HI.out.own.form
        have hv := HI.out.vars hg1
        have t0 := hv.t0
        have f0 := hv.f0
        have f1 := hv.f1
        have f2 := hv.f2
        have tz := hv.tz
        have fz := hv.fz
        have hown : OwnT w1 (w.heap.size + 3) (.slice la acc.length lc) acc := fam_keeps HI.out.own (fun g hgv => hg1.block g (HI.out.own.lt g hgv).2 (by have := (HI.out.own.lt g hgv).1; simp; omega))
        have HOW := Hid.out (p := Hid _) hown
        have HLW := Hid.out (p := Hid _) (HI.out.lows hg1)
        clear hv hown hg1 hS1 hst
        go_wp2
        refine leaves_cons (f := 78) (args := #[.pointer (some ⟨w.heap.size, 0, none⟩), .pointer (some ⟨w.heap.size + 1, 0, none⟩)]) (by simp) (by simp [go_sem]) ?_
        refine (catch_idle ⟨w.heap.size, 0, none⟩ ⟨w.heap.size + 1, 0, none⟩ _).mono ?_
        rintro e u' w'' ⟨rfl, rfl, rfl⟩
        refine ⟨.tuple #[.slice la acc.length lc, .agg #[.int .i64 0, .int .i64 0, .int .i64 0]], ?_, ⟨_, rfl, ?_⟩, ?_⟩
        · simp [results, Tryz.results61, go_sem, t0, f0, f1, f2]
        · exact own_low (ownsRow_setCell_below (ownsRow_setCell_below (ownsRow_setCell_below (ownsRow_setCell_below HOW.out (by simp) _) (by simp) _) (by simp) _) (by simp) _) (by omega)
        · exact (((HLW.out.setCell (Nat.le_refl _) _).setCell (Nat.le_succ _) _).setCell (Nat.le_succ _) _).setCell (Nat.le_succ _) _
    · obtain rfl := HB4.out hB
      exact door_byte w w1 E lv _ _ _ _ _ _ _ _ _ _ _ _ _ (HI.out.vars hg1) (HI.out.lows hg1)

set_option maxRecDepth 100000 in
set_option maxHeartbeats 1600000 in
theorem scan_long (s : ByteArray) (hl : 4000 < s.size) (w : World) :
    Calls Tryz.prog 44 #[.string s] w fun e w' => ScanQ w.heap.size (scanL s.data.toList) e w' ∧ Below w.heap.size w w' := by
  have hl' : (4000 : Int) < (s.size : Int) := by omega
  go_enter Tryz.func44, Tryz.ntmps44
  go_wp2
  have hq : scanL s.data.toList = ([], 1, 0) := by
    unfold scanL
    rw [if_pos (by rw [← Lib.size_eq]; exact hl)]
  rw [hq]
  exact bodyPost_ret (v := .tuple #[nilV, .agg #[.int .i64 1, .int .i64 0, .int .i64 0]]) (by simp [results, Tryz.results44, go_sem]) rfl ⟨⟨nilV, rfl, ownT_nil _ _⟩, (Below.refl _ _).alloc (Nat.le_refl _) _⟩

set_option maxRecDepth 100000 in
set_option maxHeartbeats 1600000 in
theorem scan_short (s : ByteArray) (hs : s.size ≤ 4000) (R : List Tok × (Int × Int)) (HR : Hid (scanL s.data.toList = R)) (w : World) (hE : LEnv w) :
    Calls Tryz.prog 44 #[.string s] w fun e w' => ScanQ w.heap.size R e w' ∧ Below w.heap.size w w' := by
  have hs' : ¬ (4000 : Int) < (s.size : Int) := by omega
  go_enter Tryz.func44, Tryz.ntmps44
  go_wp2_with fail
  have hA : Below w.heap.size w (w.alloc (.cells #[.int .i64 0, .int .i64 0, .int .i64 0] 25)) := (Below.refl _ _).alloc (Nat.le_refl _) _
  refine Calls.mono (scanAll_any s hs R HR _ (hE.below hA)) ?_
  rintro e w1 ⟨⟨v, rfl, hown⟩, hb1⟩
  have hx := (hb1.block w.heap.size (by simp)).trans (heap_alloc_new w _)
  have p0 := box_cell (i := 0) hx rfl
  have p1 := box_cell (i := 1) hx rfl
  have p2 := box_cell (i := 2) hx rfl
  have pf := fun j => box_free (i := j) hx
  obtain ⟨la, lc, rfl⟩ := hown.form
  have HOW := Hid.out (p := Hid _) hown
  have HB1 := Hid.out (p := Hid _) (hA.trans (hb1.mono (by simp)))
  clear hx hown hb1 hA
  go_wp2
  refine bodyPost_ret (v := .tuple #[.slice la R.1.length lc, .agg #[.int .i64 R.2.1, .int .i64 0, .int .i64 R.2.2]]) (by simp [results, Tryz.results44, go_sem, p0, p1, p2]) rfl ⟨⟨_, rfl, ?_⟩, ?_⟩
  · exact own_low (ownsRow_setCell_below (ownsRow_setCell_below (ownsRow_setCell_below HOW.out (by simp) _) (by simp) _) (by simp) _) (by simp)
  · exact ((HB1.out.setCell (Nat.le_refl _) _).setCell (Nat.le_refl _) _).setCell (Nat.le_refl _) _

/-- The program's Scan, of every text. -/
theorem scan_any (s : ByteArray) (w : World) (hE : LEnv w) :
    Calls Tryz.prog 44 #[.string s] w fun e w' => ScanQ w.heap.size (scanL s.data.toList) e w' ∧ Below w.heap.size w w' := by
  rcases Nat.lt_or_ge 4000 s.size with h | h
  · exact scan_long s h w
  · exact scan_short s h _ (rfl : _ = _) w hE

end Go.Proofs.YtggfbfjdiikaeaaGreatDoor
