/-
  The program's run, whole.
-/
import Derived.Test.YtipdnfpomdcenabGreatDoorPPlay
import Derived.Test.YtipdnfpomdcenabGreatDoorSpaceP
namespace Go.Proofs.YtipdnfpomdcenabGreatDoor
open Go.RowKit

theorem ended_moves {L : Nat → Nat} {X : Nat → Nat → Nat → Int} {mode : Int} {s : Sx} (h : endedX L s = true) : movesX L X mode s = [] := by
  unfold endedX at h
  rw [List.all_eq_true] at h
  unfold movesX
  rw [List.flatMap_eq_nil_iff]
  intro t ht
  have h1 := h t ht
  simp only [Bool.and_eq_true, List.isEmpty_iff] at h1
  have hab : ableT L X s t = false := by unfold ableT; rw [h1.1]; rfl
  unfold movesT
  rw [hab, h1.2]
  rfl
theorem QSt.unfell {w : World} {B : Nat} {Q : Cd} {sb mb : Nat} {v : Rp → Value} {s : Sx} (h : QSt w B Q sb mb v s) : QSt w B Q sb mb v { s with fell := false } := ⟨h.fam.same (fun r => by cases r <;> rfl) (fun r => by cases r <;> rfl), h.st, h.mem, h.box⟩
theorem SOk.unfell {n : Nat} {L : Nat → Nat} {m lk rg : Nat} {mode : Int} {s : Sx} (h : SOk n L m lk rg mode s) : SOk n L m lk rg mode { s with fell := false } := ⟨h.ths, h.pc, h.regs, h.words, h.own, h.wlen, h.wok, h.bare⟩
/-- The trace of a run, with all that it says. -/
def TraceR (B : Nat) (w : World) (R : Sx × Int × Nat) (e : Ending) (w' : World) : Prop := ∃ pa pl pc wa wl wc, e = .returned (.agg #[.slice pa pl pc, .int .i64 R.2.1, .slice wa wl wc, .int .i64 (R.2.2 : Nat)]) ∧ IsI w' B pa pl pc R.1.prints ∧ IsI w' B wa wl wc R.1.words ∧ Below B w w'

set_option maxRecDepth 100000 in
set_option maxHeartbeats 6400000 in
theorem play_any (w0 w : World) (ca : Option Addr) (n cc : Nat) (wa : Option Addr) (wc lk rg mb : Nat) (v0 : Rp → Value) (words script : List Int) (sa : Option Addr) (sc : Nat) (Q : Cd) (X : Nat → Nat → Nat → Int) (hM : MLaw Q.K) (hnt : Q.nt = n) (h : MemQ Q w0 w mb v0 words lk) (hp : PIn w ca n Q.A Q.L Q.C X) (hc : COk n Q.L X words.length lk rg) (hn0 : 0 < n) (hsl : script.length ≤ 9223372036854775807) (hsi : SIs w sa script) (hscap : script.length ≤ sc)
    (hsaB : ∀ b o, sa = some ⟨b, o, none⟩ → b < w0.heap.size) (hpb : ∀ t b o i, ca = some ⟨b, o, none⟩ → t < n → b < w0.heap.size ∧ ∀ b' o', Q.A t = some ⟨b', o', none⟩ → i < Q.L t → b' < w0.heap.size) :
    Calls Tryz.prog 34 #[prgV ca n cc wa words.length wc lk rg, .iface Q.K.tid (.pointer (some ⟨Q.top mb, 0, none⟩)), .slice sa script.length sc] w (TraceR w0.heap.size w (runX Q.L X Q.K.mode 5000 (beginX n words lk rg) 0 script)) := by
  obtain ⟨R, hR⟩ : ∃ R, runX Q.L X Q.K.mode 5000 (beginX n words lk rg) 0 script = R := ⟨_, rfl⟩
  rw [hR]
  obtain ⟨PC, hPC⟩ : ∃ o : Obj, o = .cells #[.slice ca n cc, .slice wa words.length wc, .int .i64 (lk : Int), .int .i64 (rg : Int)] 25 := ⟨_, rfl⟩
  obtain ⟨RC, hRC⟩ : ∃ o : Obj, o = .cells #[nilV, .int .i64 0, nilV, .int .i64 0] 46 := ⟨_, rfl⟩
  have hb2 : Below w.heap.size w ((w.alloc PC).alloc RC) := ((Below.refl _ _).alloc (Nat.le_refl _) _).alloc (by simp) _
  have hbeg := pbegin_any w0 ((w.alloc PC).alloc RC) ca n cc wa wc lk rg mb v0 words Q X (h.later hb2) (hp.below hb2) hc.n4 hc.rg0 hc.rg2
  have hsz : ((w.alloc PC).alloc RC).heap.size = w.heap.size + 2 := by simp
  have hw0 : w0.heap.size ≤ w.heap.size := h.below.size
  have hres0 : ((w.alloc PC).alloc RC).heap[w.heap.size + 1]? = some RC := by
    have := heap_alloc_new (w.alloc PC) RC
    rwa [World.size_alloc] at this
  have HST : Hid (∀ w1 (sb : Nat) v, w.heap.size + 2 ≤ sb → QSt w1 w0.heap.size Q sb mb v (beginX n words lk rg) → Below (w.heap.size + 2) ((w.alloc PC).alloc RC) w1 → Rnp w (((w1.alloc (.cells #[.pointer (some ⟨sb, 0, none⟩)] 78)).alloc (.cells #[.slice sa script.length sc] 128)).alloc (.cells #[.int .i64 0] 3)) w0.heap.size Q sb mb v (beginX n words lk rg) ca X n words.length lk rg 0 w1.heap.size (w1.heap.size + 1) (w1.heap.size + 2) (w.heap.size + 1) sa sc script 0) := fun w1 sb v hsb hD hb1 => by
    have hb3 : Below w1.heap.size w1 (((w1.alloc (.cells #[.pointer (some ⟨sb, 0, none⟩)] 78)).alloc (.cells #[.slice sa script.length sc] 128)).alloc (.cells #[.int .i64 0] 3)) := (((Below.refl _ _).alloc (Nat.le_refl _) _).alloc (by simp) _).alloc (by simp; omega) _
    have hs1 : w.heap.size + 2 ≤ w1.heap.size := by have := hb1.size; rw [hsz] at this; exact this
    have hbl : Below w.heap.size w w1 := hb2.trans (hb1.mono (by omega))
    have hbl3 : Below w.heap.size w (((w1.alloc (.cells #[.pointer (some ⟨sb, 0, none⟩)] 78)).alloc (.cells #[.slice sa script.length sc] 128)).alloc (.cells #[.int .i64 0] 3)) := hbl.trans (hb3.mono (by omega))
    have hD3 := hD.below hb3
    have hlt : ∀ r g, (v r).ownBlock = some g → g < w1.heap.size := fun r g e => hD.fam.lt e
    have cn : (((w1.alloc (.cells #[.pointer (some ⟨sb, 0, none⟩)] 78)).alloc (.cells #[.slice sa script.length sc] 128)).alloc (.cells #[.int .i64 0] 3)).cell? ⟨w1.heap.size + 1, 0, none⟩ = some (.slice sa script.length sc) := by go_simp
    have cs : (((w1.alloc (.cells #[.pointer (some ⟨sb, 0, none⟩)] 78)).alloc (.cells #[.slice sa script.length sc] 128)).alloc (.cells #[.int .i64 0] 3)).cell? ⟨w1.heap.size, 0, none⟩ = some (.pointer (some ⟨sb, 0, none⟩)) := by go_simp
    have ck : (((w1.alloc (.cells #[.pointer (some ⟨sb, 0, none⟩)] 78)).alloc (.cells #[.slice sa script.length sc] 128)).alloc (.cells #[.int .i64 0] 3)).cell? ⟨w1.heap.size + 2, 0, none⟩ = some (.int .i64 0) := by go_simp
    have fn : (((w1.alloc (.cells #[.pointer (some ⟨sb, 0, none⟩)] 78)).alloc (.cells #[.slice sa script.length sc] 128)).alloc (.cells #[.int .i64 0] 3)).frozen? ⟨w1.heap.size + 1, 0, none⟩ = false := by go_simp
    have fk : (((w1.alloc (.cells #[.pointer (some ⟨sb, 0, none⟩)] 78)).alloc (.cells #[.slice sa script.length sc] 128)).alloc (.cells #[.int .i64 0] 3)).frozen? ⟨w1.heap.size + 2, 0, none⟩ = false := by go_simp
    have hres3 := (hb3.block (w.heap.size + 1) (by omega)).trans ((hb1.block (w.heap.size + 1) (by omega)).trans hres0)
    rw [hRC] at hres3
    refine ⟨hD3, begin_ok, by simp [beginX], rfl, hbl3.mono hw0, hw0, hp.below hbl3, ⟨Nat.zero_le _, ⟨sa, sc, cn, fun hq => ?_⟩, fn, hsi.below hbl3⟩, cs, ck, fk, hres3, fun r e => ?_, fun r e => ?_, fun r e => ?_, fun r => ?_, hsaB, hD3.fam.low, LkI.begin⟩
    · obtain ⟨b, o, e, _⟩ := hsi 0 hq
      exact ⟨b, o, e, by rw [e, Nat.add_zero], by omega⟩
    · have := hlt r _ e; omega
    · have := hlt r _ e; omega
    · have := hlt r _ e; omega
    · exact own_type (hD3.fam.own r) hres3 (by
        cases r with
        | box => exact hM.notTr.1
        | bufs => exact hM.notTr.2.1
        | buf t => exact hM.notTr.2.2
        | _ => simp [pTy])
  rw [hsz] at hbeg
  have HR : Hid (runX Q.L X Q.K.mode 5000 (beginX n words lk rg) 0 script = R) := hR
  obtain ⟨m, hmm⟩ : ∃ m, words.length = m := ⟨_, rfl⟩
  rw [hmm] at hc hPC HST hbeg ⊢
  have HPI : Hid (∀ wr (sb : Nat) v s k cb nb kb q, Rnp w wr w0.heap.size Q sb mb v s ca X n m lk rg k cb nb kb (w.heap.size + 1) sa sc script q → Calls Tryz.prog 50 #[.pointer (some ⟨sb, 0, none⟩)] wr fun e w' => ∃ a len c, e = .returned (.slice a len c) ∧ IsP w' wr.heap.size a len c (movesX Q.L X Q.K.mode s) ∧ Below wr.heap.size wr w') := fun wr sb v s k cb nb kb q h => picks_any wr _ Q sb mb v s ca X n m lk rg hn0 h.D hM (Nat.le_trans h.hB h.low.size) hnt h.ok hc h.prog
  have HEN : Hid (∀ wr (sb : Nat) v s k cb nb kb q, Rnp w wr w0.heap.size Q sb mb v s ca X n m lk rg k cb nb kb (w.heap.size + 1) sa sc script q → movesX Q.L X Q.K.mode s = [] → Calls Tryz.prog 51 #[.pointer (some ⟨sb, 0, none⟩)] wr fun e w' => e = .returned (.int .i64 (if endedX Q.L s then 0 else 2)) ∧ Below wr.heap.size wr w') := fun wr sb v s k cb nb kb q h hmv => by
    rw [ended_bare (fun t ht => moves_bare hmv ht)]
    exact rest_any wr _ Q sb mb v s n h.D h.ok.ths hn0 hc.n4 hc.L4 h.ok.pc
  have HML : Hid (∀ s : Sx, SOk n Q.L m lk rg Q.K.mode s → (movesX Q.L X Q.K.mode s).length ≤ 16) := fun s h => by
    have h1 := mvsT_len Q.L X Q.K.mode s (fun t ht => h.wlen t (by rw [← h.ths]; exact ht)) s.ths.length (Nat.le_refl _)
    have h2 := hc.n4
    have h3 := h.ths
    have h4 : (mvsT Q.L X Q.K.mode s s.ths.length).length = (movesX Q.L X Q.K.mode s).length := rfl
    omega
  rw [hPC, hRC] at hbeg
  have HPC : Hid (PC = .cells #[.slice ca n cc, .slice wa m wc, .int .i64 (lk : Int), .int .i64 (rg : Int)] 25 ∧ RC = .cells #[nilV, .int .i64 0, nilV, .int .i64 0] 46) := ⟨hPC, hRC⟩
  have hm64 := hc.m64
  have HN4 : Hid (n ≤ 4) := hc.n4
  have HC : Hid (COk n Q.L X m lk rg) := hc
  have HPB := Hid.out (p := Hid _) hpb
  obtain ⟨slen, hslen⟩ : ∃ x, script.length = x := ⟨_, rfl⟩
  have HSL : Hid (script.length = slen) := hslen
  rw [hslen] at hsl HST ⊢
  clear h hp hb2 hsi hscap hsz hres0 hR hPC hRC hslen
  go_enter Tryz.func34, Tryz.ntmps34
  go_wp2_with fail
  refine hbeg.mono ?_
  rintro e w1 ⟨sb, v, rfl, hsb, hD, hb1⟩
  rw [← HPC.out.1, ← HPC.out.2] at hb1
  have HS0 := Hid.out (p := Hid _) (HST.out w1 sb v hsb hD hb1)
  have hlt1 : sb < w1.heap.size := hD.fam.lt hD.bst
  clear hD hb1 hbeg HST
  obtain ⟨cb, hcb⟩ : ∃ x, w1.heap.size = x := ⟨_, rfl⟩
  have hcb2 : w.heap.size + 2 < cb := by omega
  have HEND : Hid (∀ W v s (st : Int) k q, Rnp w W w0.heap.size Q sb mb v s ca X n m lk rg k cb (cb + 1) (cb + 2) (w.heap.size + 1) sa sc script q → Calls Tryz.prog 66 #[.int .i64 st, .pointer (some ⟨cb, 0, none⟩), .pointer (some ⟨cb + 2, 0, none⟩)] W (TraceP w0.heap.size W s st k)) := fun W v s st k q h => end_any W _ Q sb mb v s cb (cb + 2) st k hM h.D (Nat.le_trans h.hB h.low.size) (by rw [h.ok.words]; exact hm64) h.ccb h.ckb
  have HRES : Hid (∀ W w5 v s k q, Rnp w W w0.heap.size Q sb mb v s ca X n m lk rg k cb (cb + 1) (cb + 2) (w.heap.size + 1) sa sc script q → Below W.heap.size W w5 →
      (w5.cell? ⟨w.heap.size + 1, 0, none⟩ = some nilV ∧ w5.cell? ⟨w.heap.size + 1, 1, none⟩ = some (.int .i64 0) ∧ w5.cell? ⟨w.heap.size + 1, 2, none⟩ = some nilV ∧ w5.cell? ⟨w.heap.size + 1, 3, none⟩ = some (.int .i64 0)) ∧ (∀ i, w5.frozen? ⟨w.heap.size + 1, i, none⟩ = false) ∧
      Hid (∀ (a0 a1 a2 a3 : Value) pa pl pc wa wl wc, IsI w5 w0.heap.size pa pl pc s.prints → IsI w5 w0.heap.size wa wl wc s.words → IsI ((((w5.setCell ⟨w.heap.size + 1, 0, none⟩ a0).setCell ⟨w.heap.size + 1, 1, none⟩ a1).setCell ⟨w.heap.size + 1, 2, none⟩ a2).setCell ⟨w.heap.size + 1, 3, none⟩ a3) w0.heap.size pa pl pc s.prints ∧ IsI ((((w5.setCell ⟨w.heap.size + 1, 0, none⟩ a0).setCell ⟨w.heap.size + 1, 1, none⟩ a1).setCell ⟨w.heap.size + 1, 2, none⟩ a2).setCell ⟨w.heap.size + 1, 3, none⟩ a3) w0.heap.size wa wl wc s.words ∧ Below w0.heap.size w ((((w5.setCell ⟨w.heap.size + 1, 0, none⟩ a0).setCell ⟨w.heap.size + 1, 1, none⟩ a1).setCell ⟨w.heap.size + 1, 2, none⟩ a2).setCell ⟨w.heap.size + 1, 3, none⟩ a3))) := fun W w5 v s k q h hb => by
    have hrb : w.heap.size + 1 < W.heap.size := by
      rcases Nat.lt_or_ge (w.heap.size + 1) W.heap.size with h1 | h1
      · exact h1
      · have := h.res; rw [Array.getElem?_eq_none h1] at this; cases this
    have hres := (hb.block _ hrb).trans h.res
    have hlow5 : Below w0.heap.size w w5 := h.low.trans (hb.mono (Nat.le_trans h.hB h.low.size))
    refine ⟨⟨?_, ?_, ?_, ?_⟩, fun i => ?_, fun a0 a1 a2 a3 pa pl pc wa wl wc h1 h2 => ?_⟩
    · simp [World.cell?, hres]
    · simp [World.cell?, hres]
    · simp [World.cell?, hres]
    · simp [World.cell?, hres]
    · simp [World.frozen?, hres]
    · have hk : ∀ j, j ≠ w.heap.size + 1 → ((((w5.setCell ⟨w.heap.size + 1, 0, none⟩ a0).setCell ⟨w.heap.size + 1, 1, none⟩ a1).setCell ⟨w.heap.size + 1, 2, none⟩ a2).setCell ⟨w.heap.size + 1, 3, none⟩ a3).heap[j]? = w5.heap[j]? := fun j hj => by
        rw [Below.heap_setCell _ _ _ _ hj, Below.heap_setCell _ _ _ _ hj, Below.heap_setCell _ _ _ _ hj, Below.heap_setCell _ _ _ _ hj]
      refine ⟨⟨h1.is, fam_keeps h1.own (fun g hg => hk g (fun e => own_type h1.own hres (by simp) (by rw [hg, e])))⟩, ⟨h2.is, fam_keeps h2.own (fun g hg => hk g (fun e => own_type h2.own hres (by simp) (by rw [hg, e])))⟩, ?_⟩
      exact (((hlow5.setCell (by show _ ≤ w.heap.size + 1; omega) _).setCell (by show _ ≤ w.heap.size + 1; omega) _).setCell (by show _ ≤ w.heap.size + 1; omega) _).setCell (by show _ ≤ w.heap.size + 1; omega) _
  rw [hcb] at HS0
  go_wp2
  go_loopw [11] (fun _ wr => ∃ (k q : Nat) (v : Rp → Value) (s : Sx), k ≤ 5000 ∧ q ≤ slen ∧ wr.cell? ⟨cb + 2, 0, none⟩ = some (.int .i64 k) ∧ Hid (Rnp w wr w0.heap.size Q sb mb v s ca X n m lk rg k cb (cb + 1) (cb + 2) (w.heap.size + 1) sa sc script q) ∧ Hid (runX Q.L X Q.K.mode (5000 - k) s k (script.drop q) = R)) (fun _ wr => 5000 - (intOf ((wr.cell? ⟨cb + 2, 0, none⟩).getD nilV)).toNat)
  case atStart => exact ⟨0, 0, v, _, by omega, Nat.zero_le _, HS0.out.ckb, HS0, by show _ = _; rw [List.drop_zero]; exact HR.out⟩
  case round =>
    obtain ⟨k, q, v, s, hk, hq, hck, HS, HRK⟩ := hrel
    clear HS0 HR
    have hccb := HS.out.ccb
    have HC1 := Hid.out (p := Hid _) (HPI.out _ _ _ _ _ _ _ _ _ HS.out)
    go_wp2_with fail
    refine Calls.mono HC1.out ?_
    rintro e w2 ⟨pa, pl, pcap, rfl, hI, hb2⟩
    have HW := Hid.out (p := Hid _) (HS.out.below hb2)
    have hccb2 := HW.out.ccb
    have hck2 := HW.out.ckb
    have HI := Hid.out (p := Hid _) hI
    clear HC1 hb2 hI
    by_cases hl0 : pl = 0
    · subst hl0
      have HNIL : Hid (movesX Q.L X Q.K.mode s = []) := List.eq_nil_of_length_eq_zero HI.out.is
      have HC2 := Hid.out (p := Hid _) (HEN.out _ _ _ _ _ _ _ _ _ HW.out HNIL.out)
      have HW2 := HW
      clear HW HS
      go_wp2_with fail
      refine Calls.mono HC2.out ?_
      rintro e w3 ⟨rfl, hb3⟩
      have HW := Hid.out (p := Hid _) (HW2.out.below hb3)
      clear HC2 hb3 HW2
      cases hend : endedX Q.L s with
      | true =>
        simp only [if_true]
        have HRR : Hid (R = (s, 0, k)) := by
          show _ = _
          rw [← HRK.out]; exact run_ended hend
        clear hend HRK
        have HE := Hid.out (p := Hid _) (HEND.out w3 v s 0 _ _ HW.out)
        go_wp2_with fail
        refine Calls.mono HE.out ?_
        rintro e w5 ⟨pa5, pl5, pc5, wa5, wl5, wc5, rfl, hI5, hJ5, hb5⟩
        obtain ⟨⟨x0, x1, x2, x3⟩, xf, HFN⟩ := HRES.out w3 w5 v s _ _ HW.out hb5
        have HI5 := Hid.out (p := Hid _) (And.intro hI5 hJ5)
        clear hI5 hJ5 hb5 HE
        go_wp2
        refine bodyPost_ret (v := .agg #[.slice pa5 pl5 pc5, .int .i64 0, .slice wa5 wl5 wc5, .int .i64 (k : Int)]) (by simp [results, Tryz.results34, go_sem, cell_set, x0, x1, x2, x3]) rfl ⟨pa5, pl5, pc5, wa5, wl5, wc5, ?_, ?_⟩
        · first | (rw [HRR.out]; done) | (rw [HRR.out]; rfl)
        · rw [HRR.out]
          exact HFN.out _ _ _ _ _ _ _ _ _ _ HI5.out.1 HI5.out.2
      | false =>
        simp only [Bool.false_eq_true, if_false]
        have HRR : Hid (R = (s, 2, k)) := by
          show _ = _
          rw [← HRK.out]; exact run_stuck hend HNIL.out
        clear hend HRK
        have HE := Hid.out (p := Hid _) (HEND.out w3 v s 2 _ _ HW.out)
        go_wp2_with fail
        refine Calls.mono HE.out ?_
        rintro e w5 ⟨pa5, pl5, pc5, wa5, wl5, wc5, rfl, hI5, hJ5, hb5⟩
        obtain ⟨⟨x0, x1, x2, x3⟩, xf, HFN⟩ := HRES.out w3 w5 v s _ _ HW.out hb5
        have HI5 := Hid.out (p := Hid _) (And.intro hI5 hJ5)
        clear hI5 hJ5 hb5 HE
        go_wp2
        refine bodyPost_ret (v := .agg #[.slice pa5 pl5 pc5, .int .i64 2, .slice wa5 wl5 wc5, .int .i64 (k : Int)]) (by simp [results, Tryz.results34, go_sem, cell_set, x0, x1, x2, x3]) rfl ⟨pa5, pl5, pc5, wa5, wl5, wc5, ?_, ?_⟩
        · first | (rw [HRR.out]; done) | (rw [HRR.out]; rfl)
        · rw [HRR.out]
          exact HFN.out _ _ _ _ _ _ _ _ _ _ HI5.out.1 HI5.out.2
    · have HNIL : Hid (movesX Q.L X Q.K.mode s ≠ []) := fun h => hl0 (by rw [← HI.out.is, h]; rfl)
      have HNE : Hid (endedX Q.L s = false) := by
        show _ = _
        cases he : endedX Q.L s with
        | false => rfl
        | true => exact absurd (ended_moves he) HNIL.out
      have hpln : pl ≤ 16 := by have h1 := HI.out.is; have h2 := HML.out s HW.out.ok; omega
      have hpl0 : 0 < pl := by omega
      by_cases hk5 : k = 5000
      · subst hk5
        have HRR : Hid (R = (s, 3, 5000)) := by
          show _ = _
          rw [← HRK.out]; exact run_out HNE.out HNIL.out
        clear HRK HS
        have HE := Hid.out (p := Hid _) (HEND.out w2 v s 3 _ _ HW.out)
        go_wp2_with fail
        refine Calls.mono HE.out ?_
        rintro e w5 ⟨pa5, pl5, pc5, wa5, wl5, wc5, rfl, hI5, hJ5, hb5⟩
        obtain ⟨⟨x0, x1, x2, x3⟩, xf, HFN⟩ := HRES.out w2 w5 v s _ _ HW.out hb5
        have HI5 := Hid.out (p := Hid _) (And.intro hI5 hJ5)
        clear hI5 hJ5 hb5 HE
        go_wp2
        refine bodyPost_ret (v := .agg #[.slice pa5 pl5 pc5, .int .i64 3, .slice wa5 wl5 wc5, .int .i64 5000]) (by simp [results, Tryz.results34, go_sem, cell_set, x0, x1, x2, x3]) rfl ⟨pa5, pl5, pc5, wa5, wl5, wc5, ?_, ?_⟩
        · first | (rw [HRR.out]; done) | (rw [HRR.out]; rfl)
        · rw [HRR.out]
          exact HFN.out _ _ _ _ _ _ _ _ _ _ HI5.out.1 HI5.out.2
      · have hk4 : k < 5000 := by omega
        have hcbw : cb + 2 < wr.heap.size := lt_of_cell hck
        have hvlt : Hid (∀ r g, (v r).ownBlock = some g → g < wr.heap.size) := fun r g e => HS.out.D.fam.lt e
        have HTK := Hid.out (p := Hid _) ((HW.out.tick HPB.out (by omega) (by omega) (by omega) (by omega)).below ((Below.refl _ _).drew))
        obtain ⟨q2, hq2, hpk2, hpick⟩ := HTK.out.pick HPB.out (by omega) (by omega) (by omega) (by omega) (by rw [HSL.out]; exact hsl) pl (by omega)
        obtain ⟨i, hi⟩ : ∃ i, (pickX pl (script.drop q)).1 = i := ⟨_, rfl⟩
        have hil : i < pl := by rw [← hi]; exact pick_lt pl _ hpl0
        rw [hi] at hpick
        obtain ⟨lb, lcp, hlv, hlb, hlow, _⟩ := fam_block HI.out.own hpl0
        simp only [Value.slice.injEq] at hlv
        obtain ⟨rfl, -, -⟩ := hlv
        have hpv := pickV_at (ms := movesX Q.L X Q.K.mode s) (i := i) (by rw [HI.out.is]; exact hil)
        have l1 := fam_cell HI.out.own hlb hpv.1
        have l2 := fam_cell HI.out.own hlb hpv.2
        obtain ⟨mv, et⟩ : ∃ t, (movesX Q.L X Q.K.mode s).getD i 0 = t := ⟨_, rfl⟩
        rw [et] at l1 l2
        have hmem : mv ∈ movesX Q.L X Q.K.mode s := by
          have hl : i < (movesX Q.L X Q.K.mode s).length := by rw [HI.out.is]; exact hil
          have e1 : mv = (movesX Q.L X Q.K.mode s)[i] := by rw [← et]; simp [List.getD, List.getElem?_eq_getElem hl]
          rw [e1]; exact List.getElem_mem _
        have HSTEP : Hid (R = (if (doX X Q.K.mode s mv.toNat).fell then (doX X Q.K.mode s mv.toNat, 1, k + 1) else runX Q.L X Q.K.mode (5000 - (k + 1)) (doX X Q.K.mode s mv.toNat) (k + 1) (script.drop q2))) := by
          show _ = _
          have hlen : (movesX Q.L X Q.K.mode s).length = pl := HI.out.is
          rw [← HRK.out, show 5000 - k = 5000 - (k + 1) + 1 by omega, run_step HNE.out HNIL.out, hlen, hi, et, hpk2]
        obtain ⟨pt, ept⟩ : ∃ x, mv / 8 = x := ⟨_, rfl⟩
        obtain ⟨pp, epp⟩ : ∃ x, mv % 8 - 1 = x := ⟨_, rfl⟩
        rw [ept] at l1
        rw [epp] at l2
        have hlb1 : lb ≠ cb + 1 := by omega
        have hlb2 : lb ≠ cb + 2 := by omega
        have hlbv : Hid (∀ r, (v r).ownBlock ≠ some lb) := fun r e => by have := hvlt.out r lb e; omega
        have m0 := HTK.out.ccb
        have m1 : (w2.setCell ⟨cb + 2, 0, none⟩ (.int .i64 ((k : Int) + 1))).drew.cell? ⟨lb, i * 2, none⟩ = some (.int .i64 pt) := (World.cell?_of_block (w := w2) (Below.heap_setCell _ _ _ _ hlb2)).trans l1
        have m2 : (w2.setCell ⟨cb + 2, 0, none⟩ (.int .i64 ((k : Int) + 1))).drew.cell? ⟨lb, i * 2 + 1, none⟩ = some (.int .i64 pp) := (World.cell?_of_block (w := w2) (Below.heap_setCell _ _ _ _ hlb2)).trans l2
        have hllb : lb < w2.heap.size := lt_of_cell l1
        have hpmv := fun W (h : Rnp w W w0.heap.size Q sb mb v s ca X n m lk rg (k + 1) cb (cb + 1) (cb + 2) (w.heap.size + 1) sa sc script q2) => pmove_any W _ Q sb mb v s ca X n m lk rg h.D (Nat.le_trans h.hB h.low.size) h.ok HC.out h.prog (by have := h.pr; omega) h.fl hM hnt h.lki mv hmem
        have HOK : Hid (SOk n Q.L m lk rg Q.K.mode (doX X Q.K.mode s mv.toNat) ∧ (doX X Q.K.mode s mv.toNat).prints.length ≤ s.prints.length + 2 ∧ LkI (doX X Q.K.mode s mv.toNat)) := (pmove_any w2 _ Q sb mb v s ca X n m lk rg HW.out.D (Nat.le_trans HW.out.hB HW.out.low.size) HW.out.ok HC.out HW.out.prog (by have := HW.out.pr; omega) HW.out.fl hM hnt HW.out.lki mv hmem).2
        have HPICK := Hid.out (p := Hid _) hpick
        have fk2 := HW.out.fkb
        have hll : (i : Int) < (pl : Int) := by omega
        obtain ⟨s4, es4⟩ : ∃ x, doX X Q.K.mode s mv.toNat = x := ⟨_, rfl⟩
        have HDO2 : Hid (∀ W, Rnp w W w0.heap.size Q sb mb v s ca X n m lk rg (k + 1) cb (cb + 1) (cb + 2) (w.heap.size + 1) sa sc script q2 → Calls Tryz.prog 67 #[.pointer (some ⟨sb, 0, none⟩), .agg #[.int .i64 pt, .int .i64 pp]] W (StepQ w0.heap.size Q sb mb v W s4)) := fun W h => by
          have := (hpmv W h).1
          rwa [es4, ept, epp] at this
        rw [es4] at HSTEP HOK
        have HPR2 : Hid (s.prints.length ≤ 2 * k) := HW.out.pr
        clear HRK HS HW HTK hpick hpv et hmem hpmv ept epp es4 hi hpk2 l1 l2 hlb hlow hvlt HNIL HNE hl0 hk5
        go_wp2
        go_region_held3 (fun w' => w'.cell? ⟨cb, 0, none⟩ = some (.pointer (some ⟨sb, 0, none⟩)) ∧ w'.cell? ⟨lb, i * 2, none⟩ = some (.int .i64 pt) ∧ w'.cell? ⟨lb, i * 2 + 1, none⟩ = some (.int .i64 pp)) (refine ⟨?_, ?_, ?_⟩ <;> assumption) (first | (go_at_call 68; refine Calls.mono HPICK.out ?_; rintro e w3 ⟨rfl, hR3, hk3, hs3⟩; have z0 := hR3.ccb; have z1 := (World.cell?_of_block (hk3 lb hlb1)).trans m1; have z2 := (World.cell?_of_block (hk3 lb hlb1)).trans m2; have hl3 : lb < w3.heap.size := lt_of_cell z1) | (go_at_call 67; refine Calls.mono (HDO2.out _ hR3) ?_; rintro e w4 ⟨rfl, v4, hD4, hM4⟩; have y0 := (hM4.cell (a := ⟨cb, 0, none⟩) (lt_of_cell z0) hR3.o1).trans z0; have y1 := (hM4.cell (a := ⟨lb, i * 2, none⟩) (lt_of_cell z1) hlbv.out).trans z1; have y2 := (hM4.cell (a := ⟨lb, i * 2 + 1, none⟩) (lt_of_cell z2) hlbv.out).trans z2))
        all_goals cases hf : s4.fell with
        | true =>
          have HW := Hid.out (p := Hid _) (hR3.moved hD4.unfell hM4 HOK.out.1.unfell (by have h1 := HOK.out.2.1; have h2 := HPR2.out; show s4.prints.length ≤ 2 * (k + 1); omega) rfl (HOK.out.2.2.same rfl (fun _ _ => rfl) rfl) HPB.out)
          have HRR : Hid (R = (s4, 1, k + 1)) := by
            show _ = _
            rw [HSTEP.out, hf]; rfl
          clear hD4 hM4 hR3 HSTEP
          have HE := Hid.out (p := Hid _) (HEND.out w4 v4 { s4 with fell := false } 1 _ _ HW.out)
          go_wp2_with fail
          refine Calls.mono HE.out ?_
          rintro e w5 ⟨pa5, pl5, pc5, wa5, wl5, wc5, rfl, hI5, hJ5, hb5⟩
          obtain ⟨⟨x0, x1, x2, x3⟩, xf, HFN⟩ := HRES.out w4 w5 v4 { s4 with fell := false } _ _ HW.out hb5
          have HI5 := Hid.out (p := Hid _) (And.intro hI5 hJ5)
          clear hI5 hJ5 hb5 HE
          go_wp2
          refine bodyPost_ret (v := .agg #[.slice pa5 pl5 pc5, .int .i64 1, .slice wa5 wl5 wc5, .int .i64 ((k + 1 : Nat) : Int)]) (by simp [results, Tryz.results34, go_sem, cell_set, x0, x1, x2, x3]) rfl ⟨pa5, pl5, pc5, wa5, wl5, wc5, ?_, ?_⟩
          · first | (rw [HRR.out]; done) | (rw [HRR.out]; rfl)
          · rw [HRR.out]
            exact HFN.out _ _ _ _ _ _ _ _ _ _ HI5.out.1 HI5.out.2
        | false =>
          have HW := Hid.out (p := Hid _) (hR3.moved hD4 hM4 HOK.out.1 (by have h1 := HOK.out.2.1; have h2 := HPR2.out; omega) hf HOK.out.2.2 HPB.out)
          have HRR : Hid (runX Q.L X Q.K.mode (5000 - (k + 1)) s4 (k + 1) (script.drop q2) = R) := by
            show _ = _
            rw [HSTEP.out, hf]; rfl
          have c5 := HW.out.ckb
          have hq3 : q2 ≤ slen := by rw [← HSL.out]; exact hq2
          clear hD4 hM4 hR3 HSTEP
          go_wp2
          go_roundw
          case rel => exact ⟨k + 1, q2, v4, s4, by omega, hq3, c5, HW, HRR⟩
          case measure => simp [hck, c5, intOf]; omega

end Go.Proofs.YtipdnfpomdcenabGreatDoor
