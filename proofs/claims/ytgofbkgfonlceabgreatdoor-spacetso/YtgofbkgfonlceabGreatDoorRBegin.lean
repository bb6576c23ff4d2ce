/-
  The document's state ahead of the first step.
  What the program asks of a memory, whichever it is: its methods, as they are called, and what they do.
  Moves of the document's run: compare and swap.
-/
import Derived.Test.YtgofbkgfonlceabGreatDoorRDo1b
import Derived.Test.YtgofbkgfonlceabGreatDoorRDo1
import Derived.Test.YtgofbkgfonlceabGreatDoorRDoP
namespace Go.Proofs.YtgofbkgfonlceabGreatDoor
section
open Go.RowKit

theorem DSt.low {w : World} {B B' : Nat} {P : Pg} {sb : Nat} {v : Rl → Value} {s : Sx} (h : DSt w B P sb v s) (hB : B' ≤ B) : DSt w B' P sb v s := ⟨⟨fun r => own_low (h.fam.own r) hB, h.fam.apart⟩, h.box⟩

theorem made_ints (n : Nat) : madeCells #[Value.int .i64 0] n = (intsV (List.replicate n 0)).toArray := by
  apply Array.ext'
  simp [madeCells, intsV]
  apply List.ext_getElem?
  intro i
  simp only [List.getElem?_map, List.getElem?_replicate]
  by_cases h : i < n
  · simp [h, Nat.mod_one]
  · simp [h]

/-- What is known of a state that is being begun. -/
structure Beg (w W : World) (B sb : Nat) (P : Pg) (words : List Int) (i j : Nat) : Prop where
  ex : ∃ v, DSt W B P sb v { ths := List.replicate j (newT P.rg.toNat), words := words, own := List.replicate i (-1), prints := [], fell := false } ∧ (∀ t, j ≤ t → v (.regs t) = nilV) ∧ ∀ t, v (.wait t) = nilV
  below : Below B w W

theorem Beg.pushOwn {w W : World} {B sb : Nat} {P : Pg} {words : List Int} {i : Nat} (h : Beg w W B sb P words i 0) (hi : i ≤ 10) (hB : B ≤ W.heap.size) (hsb : B ≤ sb) :
    ∃ a c g cap w3, W.cell? ⟨sb, 7, none⟩ = some (.slice a i c) ∧ (AppS #[23, 23] 23 #[.slice a i c, .slice (some ⟨W.heap.size, 0, none⟩) 1 1]).run Tryz.prog (W.alloc (.cells #[.int .i64 (-1)] 3)) = .ok (.slice (some ⟨g, 0, none⟩) (i + 1) cap) w3 ∧ w3.cell? ⟨sb, 7, none⟩ = some (.slice a i c) ∧ w3.frozen? ⟨sb, 7, none⟩ = false ∧
      Hid (Beg w (w3.setCell ⟨sb, 7, none⟩ (.slice (some ⟨g, 0, none⟩) (i + 1) cap)) B sb P words (i + 1) 0) := by
  obtain ⟨⟨v, hs, hv1, hv2⟩, hb⟩ := h
  obtain ⟨a, c, hv⟩ := hs.ownV
  rw [List.length_replicate] at hv
  have c7 := hs.c7
  rw [hv] at c7
  obtain ⟨g, cap, w3, r1, r2, r3, r4⟩ := app_row (T := 23) Tryz.underlying23 infoI rfl (by omega) (hs.fam.own .own) (Below.refl _ W) hB 1 #[.int .i64 (-1)] rfl (by simp [Value.oneCell']) (by omega) (by show (List.replicate i (-1 : Int)).length + 1 ≤ _; simp; omega) (by omega)
  have hne : some sb ≠ (v .own).ownBlock := fun e => absurd (hs.fam.apart _ _ sb hs.bblk e.symm) (by simp)
  have hlt : sb < W.heap.size := lt_of_cell c7
  have hD := (hs.alloc (.cells #[.int .i64 (-1)] 3)).pushOwn (a := -1) r2 r3 r4 (by simp)
  have er : List.replicate i (-1 : Int) ++ [-1] = List.replicate (i + 1) (-1) := by rw [List.replicate_succ']
  simp only [er, List.length_replicate] at hD
  have hol : rN { ths := List.replicate 0 (newT P.rg.toNat), words := words, own := List.replicate i (-1), prints := [], fell := false } .own = i := by show (List.replicate i (-1 : Int)).length = i; simp
  rw [hv, hol] at r1
  refine ⟨a, c, g, cap, w3, c7, r1, r3.cell (cell_up c7 _) hne, (r3.frozen_far ⟨sb, 7, none⟩ (by simp; omega) hne).trans (frozen_up hlt (hs.fam.frozen hs.bblk 7) _), ⟨_, hD, fun t ht => by rw [upd_ne _ _ (by simp)]; exact hv1 t ht, fun t => by rw [upd_ne _ _ (by simp)]; exact hv2 t⟩, ?_⟩
  exact ((hb.alloc hB _).grown r3 (by simp; omega) (fun k hk => hs.fam.low .own k hk)).setCell hsb _

theorem Beg.pushThr {w W : World} {B sb : Nat} {P : Pg} {words : List Int} {i j : Nat} (h : Beg w W B sb P words i j) (hj : j ≤ 10) (hB : B ≤ W.heap.size) (hsb : B ≤ sb) (rg : Nat) (hrg : P.rg = rg) (hr0 : 0 < rg) (hr2 : rg ≤ 1000) :
    ∃ a c g cap w3, W.cell? ⟨sb, 5, none⟩ = some (.slice a j c) ∧ (AppS #[85, 85] 85 #[.slice a j c, .slice (some ⟨W.heap.size + 1, 0, none⟩) 1 1]).run Tryz.prog ((W.alloc (.cells (madeCells #[.int .i64 0] rg) 3)).alloc (.cells #[.int .i64 0, .slice (some ⟨W.heap.size, 0, none⟩) rg rg, nilV] 93)).drew = .ok (.slice (some ⟨g, 0, none⟩) (j + 1) cap) w3 ∧ w3.cell? ⟨sb, 5, none⟩ = some (.slice a j c) ∧ w3.frozen? ⟨sb, 5, none⟩ = false ∧
      Hid (Beg w (w3.setCell ⟨sb, 5, none⟩ (.slice (some ⟨g, 0, none⟩) (j + 1) cap)) B sb P words i (j + 1)) := by
  obtain ⟨⟨v, hs, hv1, hv2⟩, hb⟩ := h
  have hrn : P.rg.toNat = rg := by omega
  rw [hrn] at hs
  obtain ⟨a, c, hv⟩ := fam_form (hs.fam.own .thr)
  have hjl : rN { ths := List.replicate j (newT rg), words := words, own := List.replicate i (-1), prints := [], fell := false } .thr = j := by show (List.replicate j (newT rg)).length = j; simp
  rw [hjl] at hv
  have c5 := hs.c5
  rw [hv] at c5
  have hbel : Below W.heap.size W (W.alloc (.cells (madeCells #[.int .i64 0] rg) 3)).drew := ((Below.refl _ _).alloc (Nat.le_refl _) _).drew
  obtain ⟨g, cap, w3, r1, r2, r3, r4⟩ := app_row (T := 85) Tryz.underlying85 infoThread rfl (by omega) (hs.fam.own .thr) hbel hB 1 #[.int .i64 0, .slice (some ⟨W.heap.size, 0, none⟩) rg rg, nilV] rfl (by simp [Value.oneCell']) (by omega) (by rw [hjl]; omega) (by omega)
  have hne : some sb ≠ (v .thr).ownBlock := fun e => absurd (hs.fam.apart _ _ sb hs.bblk e.symm) (by simp)
  have hlt : sb < W.heap.size := lt_of_cell c5
  have hreg : ((W.alloc (.cells (madeCells #[.int .i64 0] rg) 3)).drew.alloc (.cells #[.int .i64 0, .slice (some ⟨W.heap.size, 0, none⟩) rg rg, nilV] 93)).ownsRow B 3 1 (.slice (some ⟨W.heap.size, 0, none⟩) rg rg) rg (intsV (List.replicate rg 0)) := by
    refine World.ownsRow.alloc ?_ _
    refine ⟨by simp [intsV_len], Or.inr ⟨W.heap.size, rg, madeCells #[.int .i64 0] rg, rfl, hB, ?_, Nat.le_refl _, by unfold maxLen; omega, by simp [size_madeCells], ?_⟩⟩
    · exact heap_alloc_new W _
    · rw [made_ints]
      rw [List.take_of_length_le (by simp [intsV_len])]
  have hD := (hs.below (hbel.alloc (by simp) (.cells #[.int .i64 0, .slice (some ⟨W.heap.size, 0, none⟩) rg rg, nilV] 93))).pushThr hreg (hv1 _ (by simp)) (hv2 _) (fun q e => by have := hs.fam.lt e; omega) r2 r3 r4 (by simp)
  have er : List.replicate j (newT rg) ++ [newT rg] = List.replicate (j + 1) (newT rg) := by rw [List.replicate_succ']
  simp only [er, List.length_replicate] at hD
  rw [hv, hjl] at r1
  have e1 : (W.alloc (.cells (madeCells #[.int .i64 0] rg) 3)).drew.heap.size = W.heap.size + 1 := by simp
  rw [e1] at r1
  refine ⟨a, c, g, cap, w3, c5, r1, r3.cell (cell_up2 c5 _ _) hne, (r3.frozen_far ⟨sb, 5, none⟩ (by show sb < _; rw [World.size_alloc, e1]; omega) hne).trans (frozen_up2 hlt (hs.fam.frozen hs.bblk 5) _ _), ⟨_, by rw [hrn]; exact hD, fun t ht => ?_, fun t => ?_⟩, ?_⟩
  · rw [upd_ne _ _ (by simp), upd_ne _ _ (by simp; omega)]; exact hv1 t (by omega)
  · rw [upd_ne _ _ (by simp), upd_ne _ _ (by simp)]; exact hv2 t
  · exact ((((hb.alloc hB _).drew).alloc (by simp; omega) _).grown r3 (by simp; omega) (fun k hk => hs.fam.low .thr k hk)).setCell hsb _

attribute [local go_sem ↓] appS_eq
set_option maxRecDepth 100000 in
set_option maxHeartbeats 3200000 in
theorem begin_any (w : World) (ca : Option Addr) (n cc : Nat) (wa : Option Addr) (wc lk rg : Nat) (mode : Int) (words : List Int) (hw : SIs w wa words) (hn : n ≤ 4) (hm : words.length ≤ 64) (hlk : lk ≤ 4) (hr0 : 0 < rg) (hr2 : rg ≤ 200) :
    Calls Tryz.prog 59 #[prgV ca n cc wa words.length wc lk rg, .int .i64 mode] w fun e w' => ∃ sb v, e = .returned (.pointer (some ⟨sb, 0, none⟩)) ∧ DSt w' w.heap.size ⟨ca, n, cc, wa, words.length, wc, lk, rg, mode⟩ sb v (beginX n words lk rg) ∧ Below w.heap.size w w' := by
  obtain ⟨P, hP⟩ : ∃ P : Pg, P = ⟨ca, n, cc, wa, words.length, wc, lk, rg, mode⟩ := ⟨_, rfl⟩
  rw [← hP]
  obtain ⟨PC, hPC⟩ : ∃ o : Obj, o = .cells #[.slice ca n cc, .slice wa words.length wc, .int .i64 (lk : Int), .int .i64 (rg : Int)] 25 := ⟨_, rfl⟩
  obtain ⟨SC, hSC⟩ : ∃ o : Obj, o = .cells #[.slice ca n cc, .slice wa words.length wc, .int .i64 (lk : Int), .int .i64 (rg : Int), .int .i64 mode, nilV, nilV, nilV, nilV, .bool false] 87 := ⟨_, rfl⟩
  have hb2 : Below w.heap.size w ((w.alloc PC).alloc SC) := ((Below.refl _ _).alloc (Nat.le_refl _) _).alloc (by simp) _
  have hD0 : DSt ((w.alloc PC).alloc SC) (w.heap.size + 1) P (w.heap.size + 1) (v0 (w.heap.size + 1)) s0 := DSt.start _ _ _ _ (Nat.le_refl _) (by
    have := heap_alloc_new (w.alloc PC) SC
    rw [World.size_alloc] at this
    rw [this, hSC, hP])
  obtain ⟨g, cap, w3, r1, r2, r3, r4, r5⟩ := app_src ((w.alloc PC).alloc SC) (w.heap.size + 1) (by simp) wa words wc (hw.below hb2) (by omega)
  have hsz : ((w.alloc PC).alloc SC).heap.size = w.heap.size + 2 := by simp
  rw [hsz] at r1 r3 r4
  have hvn : ∀ q, (v0 (w.heap.size + 1) q).ownBlock ≠ some g := fun q e => by
    unfold v0 at e
    split at e
    · have : w.heap.size + 1 = g := by simpa [Value.ownBlock] using e
      omega
    · simp [Value.ownBlock] at e
  have hvk : ∀ q k, (v0 (w.heap.size + 1) q).ownBlock = some k → k = w.heap.size + 1 := fun q k e => by
    unfold v0 at e
    split at e
    · have : w.heap.size + 1 = k := by simpa [Value.ownBlock] using e
      omega
    · simp [Value.ownBlock] at e
  have hD1 : DSt w3 (w.heap.size + 1) P (w.heap.size + 1) (v0 (w.heap.size + 1)) s0 := by
    refine ⟨⟨fun q => fam_keeps ((hD0.alloc (.cells #[] 3)).fam.own q) (fun k hk => r3.block k ?_ ?_), hD0.fam.apart⟩, hD0.box⟩
    · rw [hvk q k hk]; simp
    · rw [hvk q k hk]; simp
  have hD2 := hD1.layWords (x := .slice (some ⟨g, 0, none⟩) words.length cap) (l := words) rfl rfl hvn r2
  have q6 : w3.cell? ⟨w.heap.size + 1, 6, none⟩ = some nilV := hD1.c6
  have f6 : w3.frozen? ⟨w.heap.size + 1, 6, none⟩ = false := hD1.fam.frozen hD1.bblk 6
  have HB : Hid (Beg (w.alloc PC) (w3.setCell ⟨w.heap.size + 1, 6, none⟩ (.slice (some ⟨g, 0, none⟩) words.length cap)) (w.heap.size + 1) (w.heap.size + 1) P words 0 0) := by
    refine ⟨⟨_, hD2, fun t _ => ?_, fun t => ?_⟩, ?_⟩
    · rw [upd_ne _ _ (by simp)]; rfl
    · rw [upd_ne _ _ (by simp)]; rfl
    · refine Below.setCell ?_ (by simp) _
      refine Below.grown (w := ((w.alloc PC).alloc SC).alloc (.cells #[] 3)) ?_ r3 (by simp) (fun k hk => by simp at hk; omega)
      exact ((Below.refl _ _).alloc (by simp) _).alloc (by simp) _
  have hrun : (AppS #[23, 23] 23 #[.slice (some ⟨w.heap.size + 2, 0, none⟩) 0 0, .slice wa words.length wc]).run Tryz.prog (((w.alloc PC).alloc SC).alloc (.cells #[] 3)) = .ok (.slice (some ⟨g, 0, none⟩) words.length cap) w3 := r1
  have HPC : Hid (∀ wr, Below (w.heap.size + 1) (w.alloc PC) wr → wr.cell? ⟨w.heap.size, 0, none⟩ = some (.slice ca n cc) ∧ wr.cell? ⟨w.heap.size, 2, none⟩ = some (.int .i64 (lk : Int)) ∧ wr.cell? ⟨w.heap.size, 3, none⟩ = some (.int .i64 (rg : Int))) := fun wr hb => by
    have hblk := hb.block w.heap.size (by omega)
    rw [heap_alloc_new w PC, hPC] at hblk
    refine ⟨?_, ?_, ?_⟩ <;> simp [World.cell?, hblk]
  have hmk := fun W => run_make_row' (P := Tryz.prog) 23 3 (.int .i64 0) 8 Tryz.underlying23 infoI rfl .i64 .i64 rg (by omega) (by omega) W
  have hprg : P.rg = rg := by rw [hP]
  have HPG : Hid (P.rg = rg) := hprg
  have HFIN : Hid (∀ W, Beg (w.alloc PC) W (w.heap.size + 1) (w.heap.size + 1) P words lk n → ∃ v, DSt W w.heap.size P (w.heap.size + 1) v (beginX n words lk rg) ∧ Below w.heap.size w W) := fun W h => by
    obtain ⟨⟨v, h1, _, _⟩, h2⟩ := h
    refine ⟨v, ?_, ((Below.refl _ _).alloc (Nat.le_refl _) PC).trans (h2.mono (by omega))⟩
    have h3 := h1.low (B' := w.heap.size) (by omega)
    rw [hprg] at h3
    exact h3
  rw [hPC, hSC] at hrun
  have HPC' : Hid (PC = .cells #[.slice ca n cc, .slice wa words.length wc, .int .i64 (lk : Int), .int .i64 (rg : Int)] 25) := hPC
  obtain ⟨m, hm'⟩ : ∃ m, words.length = m := ⟨_, rfl⟩
  rw [hm'] at hrun hm HB ⊢
  clear hD0 hD1 hD2 hvn hvk r1 r2 r3 hb2 hw hprg hsz hP hPC hSC hm'
  go_enter Tryz.func59, Tryz.ntmps59
  go_wp2
  go_loopw [6] (fun i wr => ∃ j : Nat, j ≤ lk ∧ i = .int .i64 j ∧ Hid (Beg (w.alloc PC) wr (w.heap.size + 1) (w.heap.size + 1) P words j 0)) (fun i _ => lk - (intOf i).toNat)
  case atStart => exact ⟨0, Nat.zero_le _, rfl, HB⟩
  case round =>
    obtain ⟨j, hj, rfl, HJ⟩ := hrel
    obtain ⟨p0, p2, p3⟩ := HPC.out _ HJ.out.below
    by_cases hlt : j < lk
    · obtain ⟨a, c, g2, cap2, w4, k7, hrun2, q7, f7, HN⟩ := HJ.out.pushOwn (by omega) (by have := HJ.out.below.size; simp at this; omega) (Nat.le_refl _)
      go_wp2
      go_roundw
      case rel => exact ⟨j + 1, by omega, by go_num, HN⟩
      case measure => simp [intOf]; omega
    · obtain rfl : j = lk := by omega
      go_wp2
      go_loopw [7] (fun i wr2 => ∃ q : Nat, q ≤ n ∧ i = .int .i64 q ∧ Hid (Beg (w.alloc PC) wr2 (w.heap.size + 1) (w.heap.size + 1) P words j q)) (fun i _ => n - (intOf i).toNat)
      case atStart => exact ⟨0, Nat.zero_le _, rfl, HJ⟩
      case round =>
        obtain ⟨q, hq, rfl, HQ⟩ := hrel
        obtain ⟨s0, s2, s3⟩ := HPC.out _ HQ.out.below
        by_cases hlq : q < n
        · obtain ⟨a, c, g2, cap2, w4, k5, hrun2, q5, f5, HN⟩ := HQ.out.pushThr (by omega) (by have := HQ.out.below.size; simp at this; omega) (Nat.le_refl _) rg HPG.out hr0 (by omega)
          have k5u := cell_up k5
          have k5u2 := cell_up2 k5
          have su := cell_up s3
          have su2 := cell_up2 s3
          go_wp2
          go_region
          all_goals go_wp2
          all_goals go_roundw
          case rel => exact ⟨q + 1, by omega, by go_num, HN⟩
          case measure => simp [intOf]; omega
        · obtain rfl : q = n := by omega
          go_wp2
          go_ret
          obtain ⟨v, h1, h2⟩ := HFIN.out _ HQ.out
          exact ⟨_, v, rfl, h1, h2⟩
end

section
open Go.RowKit

/-- What a step's call must come to. -/
def StepQ (B : Nat) (Q : Cd) (sb mb : Nat) (v : Rp → Value) (w : World) (s' : Sx) (e : Ending) (w' : World) : Prop := e = .returned (.bool (!s'.fell)) ∧ ∃ v', QSt w' B Q sb mb v' s' ∧ Moved w w' v v'
/-- What a change of the memory must come to. -/
def ChgQ (B : Nat) (Q : Cd) (sb mb : Nat) (v : Rp → Value) (w : World) (s' : Sx) (r : Value) (e : Ending) (w' : World) : Prop := e = .returned r ∧ ∃ v', QSt w' B Q sb mb v' s' ∧ Moved w w' v v' ∧ v' .st = v .st ∧ v' .thr = v .thr ∧ v' .prints = v .prints ∧ ∀ u, v' (.regs u) = v (.regs u)
/-- What can be known of a thread where a memory is asked. -/
structure MPre (w : World) (B : Nat) (Q : Cd) (sb mb : Nat) (v : Rp → Value) (s : Sx) (t : Nat) : Prop where
  hs : QSt w B Q sb mb v s
  hB : B ≤ w.heap.size
  hn : Q.nt = s.ths.length
  h4 : s.ths.length ≤ 4
  ht : t < s.ths.length
  hm : s.words.length ≤ 64
  hl : s.own.length ≤ 4
  hw : (thOf s t).wait.length ≤ 3
  hok : ∀ x, x ∈ (thOf s t).wait → (0 ≤ x.wh ∧ x.wh < (if x.lk then s.own.length else s.words.length : Nat)) ∧ (x.lk = true → x.what = 0)
  bare : Q.K.bf = false → (thOf s t).wait = []
theorem MPre.same {w W : World} {B : Nat} {Q : Cd} {sb mb : Nat} {v : Rp → Value} {s : Sx} {t : Nat} (h : MPre w B Q sb mb v s t) (e : W.heap = w.heap) : MPre W B Q sb mb v s t := ⟨h.hs.same e, by rw [e]; exact h.hB, h.hn, h.h4, h.ht, h.hm, h.hl, h.hw, h.hok, h.bare⟩
theorem MPre.below {w W : World} {B : Nat} {Q : Cd} {sb mb : Nat} {v : Rp → Value} {s : Sx} {t : Nat} (h : MPre w B Q sb mb v s t) (e : Below w.heap.size w W) : MPre W B Q sb mb v s t := ⟨h.hs.below e, Nat.le_trans h.hB e.size, h.hn, h.h4, h.ht, h.hm, h.hl, h.hw, h.hok, h.bare⟩
/-- The places of what waits and can be done. -/
def placesW (mode : Int) (l : List Wt) : List Nat := (List.range l.length).filter fun k => mayW mode l k

structure MLaw (K : Mk) : Prop where
  notTr : K.bty ≠ 46 ∧ K.lty ≠ 46 ∧ K.sty ≠ 46
  mode0 : K.bf = false → K.mode = 0
  mode1 : K.bf = true → 0 < K.mode
  mHas : ∀ (w : World) (B : Nat) (Q : Cd) (sb mb : Nat) (v : Rp → Value) (s : Sx), Q.K = K → QSt w B Q sb mb v s → (method 368 K.tid (.pointer (some ⟨Q.top mb, 0, none⟩)) "Has").run Tryz.prog w = .ok (173, .pointer (some ⟨mb, 0, none⟩)) w
  mAble : ∀ (a : Addr) (w : World), (method 368 K.tid (.pointer (some a)) "Able").run Tryz.prog w = .ok (K.able, .pointer (some a)) w
  cAble : ∀ (xs : Array Value) (w : World), (callFunc K.able xs).run Tryz.prog w = .ok (.enter K.able xs) w
  mLoad : ∀ (a : Addr) (w : World), (method 368 K.tid (.pointer (some a)) "Load").run Tryz.prog w = .ok (K.load, .pointer (some a)) w
  cLoad : ∀ (xs : Array Value) (w : World), (callFunc K.load xs).run Tryz.prog w = .ok (.enter K.load xs) w
  mStore : ∀ (a : Addr) (w : World), (method 368 K.tid (.pointer (some a)) "Store").run Tryz.prog w = .ok (K.store, .pointer (some a)) w
  cStore : ∀ (xs : Array Value) (w : World), (callFunc K.store xs).run Tryz.prog w = .ok (.enter K.store xs) w
  mSwap : ∀ (w : World) (B : Nat) (Q : Cd) (sb mb : Nat) (v : Rp → Value) (s : Sx), Q.K = K → QSt w B Q sb mb v s → (method 368 K.tid (.pointer (some ⟨Q.top mb, 0, none⟩)) "Swap").run Tryz.prog w = .ok (177, .pointer (some ⟨mb, 0, none⟩)) w
  mLock : ∀ (w : World) (B : Nat) (Q : Cd) (sb mb : Nat) (v : Rp → Value) (s : Sx), Q.K = K → QSt w B Q sb mb v s → (method 368 K.tid (.pointer (some ⟨Q.top mb, 0, none⟩)) "Lock").run Tryz.prog w = .ok (175, .pointer (some ⟨mb, 0, none⟩)) w
  mUnlock : ∀ (a : Addr) (w : World), (method 368 K.tid (.pointer (some a)) "Unlock").run Tryz.prog w = .ok (K.unlock, .pointer (some a)) w
  cUnlock : ∀ (xs : Array Value) (w : World), (callFunc K.unlock xs).run Tryz.prog w = .ok (.enter K.unlock xs) w
  mWaiting : ∀ (a : Addr) (w : World), (method 368 K.tid (.pointer (some a)) "Waiting").run Tryz.prog w = .ok (K.waiting, .pointer (some a)) w
  cWaiting : ∀ (xs : Array Value) (w : World), (callFunc K.waiting xs).run Tryz.prog w = .ok (.enter K.waiting xs) w
  mFinish : ∀ (a : Addr) (w : World), (method 368 K.tid (.pointer (some a)) "Finish").run Tryz.prog w = .ok (K.finish, .pointer (some a)) w
  cFinish : ∀ (xs : Array Value) (w : World), (callFunc K.finish xs).run Tryz.prog w = .ok (.enter K.finish xs) w
  mWords : ∀ (w : World) (B : Nat) (Q : Cd) (sb mb : Nat) (v : Rp → Value) (s : Sx), Q.K = K → QSt w B Q sb mb v s → (method 368 K.tid (.pointer (some ⟨Q.top mb, 0, none⟩)) "Words").run Tryz.prog w = .ok (181, .pointer (some ⟨mb, 0, none⟩)) w
  able : ∀ (w : World) (B : Nat) (Q : Cd) (sb mb : Nat) (v : Rp → Value) (s : Sx) (t : Nat) (op a b c : Int), Q.K = K → MPre w B Q sb mb v s t → (op = 17 → 0 ≤ a ∧ a < (s.own.length : Int)) →
    Calls Tryz.prog K.able #[.pointer (some ⟨Q.top mb, 0, none⟩), .int .i64 t, ints4 op a b c] w fun e w' => e = .returned (.bool (ableO s.own (thOf s t).wait.length op a)) ∧ Below w.heap.size w w'
  load : ∀ (w : World) (B : Nat) (Q : Cd) (sb mb : Nat) (v : Rp → Value) (s : Sx) (t x : Nat), Q.K = K → MPre w B Q sb mb v s t → x < s.words.length →
    Calls Tryz.prog K.load #[.pointer (some ⟨Q.top mb, 0, none⟩), .int .i64 t, .int .i64 x] w fun e w' => e = .returned (.int .i64 (findsW s t x)) ∧ Below w.heap.size w w'
  store : ∀ (w : World) (B : Nat) (Q : Cd) (sb mb : Nat) (v : Rp → Value) (s : Sx) (t x : Nat) (y : Int), Q.K = K → MPre w B Q sb mb v s t → x < s.words.length → (thOf s t).wait.length < 3 →
    Calls Tryz.prog K.store #[.pointer (some ⟨Q.top mb, 0, none⟩), .int .i64 t, .int .i64 x, .int .i64 y] w (ChgQ B Q sb mb v w (storeW K.mode s t ⟨false, x, y⟩) (.tuple #[]))
  unlockY : ∀ (w : World) (B : Nat) (Q : Cd) (sb mb : Nat) (v : Rp → Value) (s : Sx) (t x : Nat), Q.K = K → MPre w B Q sb mb v s t → x < s.own.length → (thOf s t).wait.length < 3 → s.own.getD x 0 = t → ((thOf s t).wait.any fun z => z.lk && decide (z.wh = x)) = false →
    Calls Tryz.prog K.unlock #[.pointer (some ⟨Q.top mb, 0, none⟩), .int .i64 t, .int .i64 x] w (ChgQ B Q sb mb v w (storeW K.mode s t ⟨true, x, 0⟩) (.bool true))
  unlockN : ∀ (w : World) (B : Nat) (Q : Cd) (sb mb : Nat) (v : Rp → Value) (s : Sx) (t x : Nat), Q.K = K → MPre w B Q sb mb v s t → x < s.own.length → (¬ s.own.getD x 0 = t ∨ ((thOf s t).wait.any fun z => z.lk && decide (z.wh = x)) = true) →
    Calls Tryz.prog K.unlock #[.pointer (some ⟨Q.top mb, 0, none⟩), .int .i64 t, .int .i64 x] w fun e w' => e = .returned (.bool false) ∧ Below w.heap.size w w'
  finish : ∀ (w : World) (B : Nat) (Q : Cd) (sb mb : Nat) (v : Rp → Value) (s : Sx) (X : Nat → Nat → Nat → Int) (t k : Nat), Q.K = K → MPre w B Q sb mb v s t → (∀ x, x ∈ (thOf s t).wait → x.lk = true → s.own.getD x.wh.toNat 0 = (t : Int)) → k < (thOf s t).wait.length → mayW K.mode (thOf s t).wait k = true →
    Calls Tryz.prog K.finish #[.pointer (some ⟨Q.top mb, 0, none⟩), .int .i64 t, .int .i64 k] w (ChgQ B Q sb mb v w (doX X K.mode s (8 * t + k + 1)) (.tuple #[]))
  waiting : ∀ (w : World) (B : Nat) (Q : Cd) (sb mb : Nat) (v : Rp → Value) (s : Sx) (t fid : Nat) (caps : Array Value) (I : Nat → World → Prop), Q.K = K → (∀ (xs : Array Value) (w : World), (callFunc fid xs).run Tryz.prog w = .ok (.enter fid xs) w) → (∀ j W, I j W → MPre W B Q sb mb v s t) → (∀ j W k, I j W → I j (W.drewN k)) → I 0 w →
    (∀ j W, j < (placesW K.mode (thOf s t).wait).length → I j W → Calls Tryz.prog fid (#[.int .i64 ((placesW K.mode (thOf s t).wait).getD j 0 : Nat)] ++ caps) W fun e W' => e = .returned (.tuple #[]) ∧ I (j + 1) W') →
    Calls Tryz.prog K.waiting #[.pointer (some ⟨Q.top mb, 0, none⟩), .int .i64 t, .func (.func fid) #[] caps] w fun e w' => e = .returned (.tuple #[]) ∧ I (placesW K.mode (thOf s t).wait).length w'
end

section
open Go.RowKit

set_option maxRecDepth 100000 in
set_option maxHeartbeats 3200000 in
theorem do_13 (w : World) (B sb : Nat) (P : Pg) (v : Rl → Value) (s : Sx) (A : Nat → Option Addr) (L C : Nat → Nat) (X : Nat → Nat → Nat → Int) (m lk rg t : Nat) (mv : Int) (_h0 : 0 ≤ mv) (_h1 : mv ≤ 1000) (hq : mv / 8 = t) (hr : mv % 8 = 0) (hx : Cx w B sb P v s A L C X m lk rg t) (hop : opT X s t 0 = 13) :
    Calls Tryz.prog 65 #[.pointer (some ⟨sb, 0, none⟩), .int .i64 mv] w (DoQ B sb P v w (orderX P.mode (stepS s t) t 13 (opT X s t 1) (opT X s t 2) (opT X s t 3))) := by
  obtain ⟨n, tb, tc, rb, rc, pc, ⟨htn, hn4, hpc4⟩, HPC, c5, HNX, HPRE⟩ := hx.pre
  have htl : t < s.ths.length := by have := hx.ho.ths; have := hx.ht; omega
  have hrl : (thOf s t).regs.length = rg := hx.ho.regs t hx.ht
  have hord := hx.hc.ord t (thOf s t).pc hx.ht hx.hlt
  have hsz := hx.hc.L4 t hx.ht
  have hrg2 := hx.hc.rg2
  change ordE rg m lk (L t) (opT X s t 0) (opT X s t 1) (opT X s t 2) (opT X s t 3) = 0 at hord
  rw [hop] at hord
  rw [hop] at HNX
  obtain ⟨a, ea⟩ : ∃ x, opT X s t 1 = x := ⟨_, rfl⟩
  obtain ⟨b, eb⟩ : ∃ x, opT X s t 2 = x := ⟨_, rfl⟩
  obtain ⟨c, ec⟩ : ∃ x, opT X s t 3 = x := ⟨_, rfl⟩
  rw [ea, eb, ec] at hord HNX ⊢
  clear ea eb ec
  obtain ⟨⟨ia, rfl, ha⟩, ⟨ib, rfl, hb⟩, ⟨ic, rfl, hc⟩⟩ := by
    have h3 := ok_cas hord
    exact (⟨toN h3.1, toN h3.2.1, toN h3.2.2⟩ : _ ∧ _ ∧ _)
  have hwl : s.words.length = m := hx.ho.words
  have hol : s.own.length = lk := hx.ho.own
  have hm64 := hx.hc.m64
  have hlk4 := hx.hc.lk4
  have hw3 := hx.ho.wlen t hx.ht
  have hthn := hx.ho.ths
  have hpn4 := hx.hc.n4
  have hsl : (stepS s t).ths.length = s.ths.length := stepS_len s t
  have hsw : (thOf (stepS s t) t).wait.length ≤ 3 := by rw [stepS_wait htl]; exact hw3
  obtain ⟨Vb, eb⟩ : ∃ x, getR s t (ib : Int) = x := ⟨_, rfl⟩
  have HVb : Hid (getR s t (ib : Int) = Vb) := eb
  obtain ⟨Vc, ec⟩ : ∃ x, getR s t (ic : Int) = x := ⟨_, rfl⟩
  have HVc : Hid (getR s t (ic : Int) = Vc) := ec
  obtain ⟨VW, eW⟩ : ∃ x, s.words.getD ia 0 = x := ⟨_, rfl⟩
  have HVW : Hid (s.words.getD ia 0 = VW) := eW
  clear eb ec eW
  by_cases hin : VW = Vb
  · subst hin
    have HST : Hid (orderX P.mode (stepS s t) t 13 (ia : Int) (ib : Int) (ic : Int) = setR { stepS s t with words := (stepS s t).words.set ia Vc } t (ib : Int) 1) := by
      show (if (stepS s t).words.getD ia 0 = getR (stepS s t) t (ib : Int) then setR { stepS s t with words := (stepS s t).words.set ia (getR (stepS s t) t (ic : Int)) } t (ib : Int) 1 else _) = _
      rw [stepS_getR htl, stepS_getR htl, HVb.out, HVc.out, if_pos (by exact HVW.out)]
    have HX := Hid.out (p := Hid _) hx
    clear hx hord hop hsz
    go_enter Tryz.func65, Tryz.ntmps65
    go_wp2_with fail
    refine Calls.mono HNX.out ?_
    rintro e w1 ⟨rfl, hb1⟩
    have HP := HPRE.out w1 hb1
    have d5 := HP.c5
    have dp := HP.cp
    have df := HP.cf
    have dr := HP.cr
    have nrt := HP.nrt
    have ntr := HP.ntr
    have lrb := HP.lrb
    have ltb := HP.ltb
    have wb := HP.regW htl (r := ib) (by omega)
    rw [HVb.out] at wb
    have wc := HP.regW htl (r := ic) (by omega)
    rw [HVc.out] at wc
    obtain ⟨wb, wc, hwv, hwb, hlw⟩ := HP.D.wordsB (by show 0 < s.words.length; omega)
    have ntw := HP.D.fam.ne HP.btb hwb (by simp)
    have nwt := HP.D.fam.ne hwb HP.btb (by simp)
    have nrw := HP.D.fam.ne HP.brb hwb (by simp)
    have nwr := HP.D.fam.ne hwb HP.brb (by simp)
    have c6 := HP.D.c6
    rw [hwv, show (stepS s t).words.length = s.words.length from rfl, hwl] at c6
    have c6' := (World.cell?_of_block (w := w1) (a := ⟨sb, 6, none⟩) (Below.heap_setCell _ _ _ _ HP.nst)).symm.trans c6
    have co := HP.D.word hwb (r := ia) (by show ia < s.words.length; omega)
    have co' := (World.cell?_of_block (w := w1) (a := ⟨wb, ia, none⟩) (Below.heap_setCell _ _ _ _ nwt)).symm.trans co
    have fo := HP.D.fam.frozen hwb ia
    have fo' := (World.frozen?_of_block (w := w1) (a := ⟨wb, ia, none⟩) (Below.heap_setCell _ _ _ _ nwt)).symm.trans fo
    have fb := HP.frz ib
    have nst := HP.nst
    have nts := HP.nts
    have lsb := HP.lsb
    have lwb : wb < w1.heap.size := by simpa [World.setCell] using hlw
    rw [show (stepS s t).words.getD ia 0 = s.words.getD ia 0 from rfl, HVW.out] at co'
    have HF : Hid (∀ o, DSt ((((w1.setCell ⟨tb, t * 3, none⟩ (.int .i64 ((pc : Int) + 1))).alloc o).setCell ⟨wb, ia, none⟩ (.int .i64 Vc)).setCell ⟨rb, ib, none⟩ (.int .i64 1)) B P sb v (setR { stepS s t with words := (stepS s t).words.set ia Vc } t (ib : Int) 1) ∧ Moved w ((((w1.setCell ⟨tb, t * 3, none⟩ (.int .i64 ((pc : Int) + 1))).alloc o).setCell ⟨wb, ia, none⟩ (.int .i64 Vc)).setCell ⟨rb, ib, none⟩ (.int .i64 1)) v v) := fun o => ⟨((HP.D.alloc o).setWord hwb ia Vc).setReg HP.brb (by show t < (stepS s t).ths.length; rw [hsl]; exact htl) ib 1, ((HP.M.alloc o).put hwb ia _).put HP.brb ib _⟩
    clear HP HPRE HNX hwv hwb c6 co fo hlw
    go_wp2
    go_quiet (fail)
    go_wp2
    refine region_tail 12 (by kernel_rfl) (by kernel_rfl) ?_
    simp only [List.take_succ_cons, List.take_zero, List.drop_succ_cons, List.drop_zero]
    repeat still_step
    refine wpStill_nil ?_
    go_wp2
    all_goals go_end0
    all_goals refine ⟨rfl, v, ?_⟩
    all_goals rw [HST.out]
    all_goals exact ⟨DSt.same (HF.out _).1 rfl, Moved.same (HF.out _).2 rfl rfl rfl rfl⟩
  · have HST : Hid (orderX P.mode (stepS s t) t 13 (ia : Int) (ib : Int) (ic : Int) = setR (stepS s t) t (ib : Int) 0) := by
      show (if (stepS s t).words.getD ia 0 = getR (stepS s t) t (ib : Int) then _ else setR (stepS s t) t (ib : Int) 0) = _
      rw [stepS_getR htl, HVb.out, if_neg (by show ¬ s.words.getD ia 0 = Vb; rw [HVW.out]; exact hin)]
    have HX := Hid.out (p := Hid _) hx
    clear hx hord hop hsz
    go_enter Tryz.func65, Tryz.ntmps65
    go_wp2_with fail
    refine Calls.mono HNX.out ?_
    rintro e w1 ⟨rfl, hb1⟩
    have HP := HPRE.out w1 hb1
    have d5 := HP.c5
    have dp := HP.cp
    have df := HP.cf
    have dr := HP.cr
    have nrt := HP.nrt
    have ntr := HP.ntr
    have lrb := HP.lrb
    have ltb := HP.ltb
    have wb := HP.regW htl (r := ib) (by omega)
    rw [HVb.out] at wb
    obtain ⟨wb, wc, hwv, hwb, hlw⟩ := HP.D.wordsB (by show 0 < s.words.length; omega)
    have ntw := HP.D.fam.ne HP.btb hwb (by simp)
    have nwt := HP.D.fam.ne hwb HP.btb (by simp)
    have nrw := HP.D.fam.ne HP.brb hwb (by simp)
    have nwr := HP.D.fam.ne hwb HP.brb (by simp)
    have c6 := HP.D.c6
    rw [hwv, show (stepS s t).words.length = s.words.length from rfl, hwl] at c6
    have c6' := (World.cell?_of_block (w := w1) (a := ⟨sb, 6, none⟩) (Below.heap_setCell _ _ _ _ HP.nst)).symm.trans c6
    have co := HP.D.word hwb (r := ia) (by show ia < s.words.length; omega)
    have co' := (World.cell?_of_block (w := w1) (a := ⟨wb, ia, none⟩) (Below.heap_setCell _ _ _ _ nwt)).symm.trans co
    have fo := HP.D.fam.frozen hwb ia
    have fo' := (World.frozen?_of_block (w := w1) (a := ⟨wb, ia, none⟩) (Below.heap_setCell _ _ _ _ nwt)).symm.trans fo
    have fb := HP.frz ib
    have nst := HP.nst
    have nts := HP.nts
    have lsb := HP.lsb
    have lwb : wb < w1.heap.size := by simpa [World.setCell] using hlw
    rw [show (stepS s t).words.getD ia 0 = s.words.getD ia 0 from rfl, HVW.out] at co'
    have HF : Hid (∀ o, DSt (((w1.setCell ⟨tb, t * 3, none⟩ (.int .i64 ((pc : Int) + 1))).alloc o).setCell ⟨rb, ib, none⟩ (.int .i64 0)) B P sb v (setR (stepS s t) t (ib : Int) 0) ∧ Moved w (((w1.setCell ⟨tb, t * 3, none⟩ (.int .i64 ((pc : Int) + 1))).alloc o).setCell ⟨rb, ib, none⟩ (.int .i64 0)) v v) := fun o => ⟨(HP.D.alloc o).setReg HP.brb (by rw [hsl]; exact htl) ib 0, (HP.M.alloc o).put HP.brb ib _⟩
    clear HP HPRE HNX hwv hwb c6 co fo hlw
    go_wp2
    go_quiet (fail)
    go_wp2
    all_goals go_end0
    all_goals refine ⟨rfl, v, ?_⟩
    all_goals rw [HST.out]
    all_goals exact ⟨DSt.same (HF.out _).1 rfl, Moved.same (HF.out _).2 rfl rfl rfl rfl⟩
end

end Go.Proofs.YtgofbkgfonlceabGreatDoor
