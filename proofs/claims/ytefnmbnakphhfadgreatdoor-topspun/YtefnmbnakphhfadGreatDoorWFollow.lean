/-
  What a state becomes is handed on, by the program.
  All states are gone through, by the program.
-/
import Derived.Test.YtefnmbnakphhfadGreatDoorWCome2
import Derived.Test.YtefnmbnakphhfadGreatDoorPStep4
import Derived.Deep.LoopGhost
namespace Go.Proofs.YtefnmbnakphhfadGreatDoor
section
open Go.RowKit

theorem QSt.zero {w : World} {B : Nat} {Q : Cd} {sb mb : Nat} {v : Rp → Value} {s : Sx} (h : QSt w B Q sb mb v s) : QSt w 0 Q sb mb v s := ⟨⟨fun r => own_low (h.fam.own r) (Nat.zero_le _), h.fam.apart⟩, h.st, h.mem, h.box⟩
/-- Those who look on: what they hold when Z were seen and F fell; what they may turn. -/
structure Obs (c : Wc) (fs ff : Nat) (cs cf : Array Value) (N : Nat → Obj → Prop) (Ob : World → List Sx → List Sx → Prop) : Prop where
  fnS : ∀ (xs : Array Value) (w : World), (callFunc fs xs).run Tryz.prog w = .ok (.enter fs xs) w
  fnF : ∀ (xs : Array Value) (w : World), (callFunc ff xs).run Tryz.prog w = .ok (.enter ff xs) w
  n1 : ∀ k cs t, wTy t ∨ t = 124 ∨ t = 118 → ¬ N k (.cells cs t)
  n2 : ∀ o, ¬ N c.km o
  n3 : ∀ r k cs, ¬ N k (.cells cs (pTy c.Q.K r))
  keep : ∀ W W' Z F, Ob W Z F → Fr c.B (NW c.km) W W' → Ob W' Z F
  see : ∀ W Z F sb mb bb v s k, Ob W Z F → QSt W 0 (c.Q.at bb) sb mb v s → StP c k s → k ≤ 4500 → Z.length ≤ 4500 → F.length ≤ 16 * 4500 → Below c.B c.w0 W → Calls Tryz.prog fs (#[.pointer (some ⟨sb, 0, none⟩)] ++ cs) W fun e W' => e = .returned (.tuple #[]) ∧ Ob W' (Z ++ [s]) F ∧ Fr c.B N W W'
  fell : ∀ W Z F sb mb bb v s, Ob W Z F → QSt W 0 (c.Q.at bb) sb mb v s → s.prints.length ≤ 10000 → Z.length ≤ 4500 → F.length ≤ 16 * 4500 → Below c.B c.w0 W → Calls Tryz.prog ff (#[.pointer (some ⟨sb, 0, none⟩)] ++ cf) W fun e W' => e = .returned (.tuple #[]) ∧ Ob W' Z (F ++ [s]) ∧ Fr c.B N W W'
/-- What is known while a state's moves are handed on. -/
structure FlI (c : Wc) (N : Nat → Obj → Prop) (Ob : World → List Sx → List Sx → Prop) (W : World) (P Z : List Sx) (s : Sx) (q : Nat) (sb mb bb : Nat) (v : Rp → Value) (pa : Option Addr) (pl pc : Nat) (K0 F0 k : Nat) (K O F : List Sx) (os : List Nat) : Prop where
  wk : WkI c W K O os
  ob : Ob W Z F
  df : Df c.Q.L c.X c.mode c.s0 K P Z O F
  fwd : Fwd c.Q.L c.X c.mode s K F k
  st : QSt W 0 (c.Q.at bb) sb mb v s
  picks : ∃ C, IsP W C pa pl pc (movesX c.Q.L c.X c.mode s)
  kl : K.length ≤ K0 + k
  fl : F.length ≤ F0 + k
  at_ : q < K.length ∧ K.getD q default = s
section
variable {c : Wc} {N : Nat → Obj → Prop} {Ob : World → List Sx → List Sx → Prop} {W W' : World} {P Z : List Sx} {s : Sx} {q sb mb bb : Nat} {v : Rp → Value} {pa : Option Addr} {pl pc K0 F0 k : Nat} {K O F : List Sx} {os : List Nat}
theorem FlI.below {fs ff : Nat} {cs cf : Array Value} (hc : WcOk c) (hO : Obs c fs ff cs cf N Ob) (h : FlI c N Ob W P Z s q sb mb bb v pa pl pc K0 F0 k K O F os) (hb : Below W.heap.size W W') : FlI c N Ob W' P Z s q sb mb bb v pa pl pc K0 F0 k K O F os :=
  ⟨h.wk.below hc hb, hO.keep _ _ _ _ h.ob (Fr.of_below (by rw [hc.Bw]; exact h.wk.low.size) hb), h.df, h.fwd, h.st.below hb, by
    obtain ⟨C, hp⟩ := h.picks
    exact ⟨C, hp.below hb⟩, h.kl, h.fl, h.at_⟩
theorem FlI.stp (h : FlI c N Ob W P Z s q sb mb bb v pa pl pc K0 F0 k K O F os) : StP c q s := by
  have := h.wk.ok q h.at_.1
  rw [h.at_.2] at this
  exact this
theorem FlI.mem (h : FlI c N Ob W P Z s q sb mb bb v pa pl pc K0 F0 k K O F os) : s ∈ K := by
  have h1 := h.at_.2
  rw [List.getD_eq_getElem?_getD, List.getElem?_eq_getElem h.at_.1] at h1
  rw [← h1]
  exact List.getElem_mem h.at_.1
/-- The next move of a copy. -/
theorem FlI.move (hc : WcOk c) (h : FlI c N Ob W P Z s q sb mb bb v pa pl pc K0 F0 k K O F os) (hb : Below W.heap.size W W') {sb' mb' bb' : Nat} {v' : Rp → Value} (hq : QSt W' W.heap.size (c.Q.at bb') sb' mb' v' s) (hk : k < (movesX c.Q.L c.X c.mode s).length) (hK : q ≤ 4500) :
    Calls Tryz.prog 81 #[.pointer (some ⟨sb', 0, none⟩), .agg #[.int .i64 ((movesX c.Q.L c.X c.mode s).getD k 0 / 8), .int .i64 ((movesX c.Q.L c.X c.mode s).getD k 0 % 8 - 1)]] W' (fun e W2 => e = .returned (.bool (!(doX c.X c.mode s ((movesX c.Q.L c.X c.mode s).getD k 0).toNat).fell)) ∧ Below W.heap.size W W2 ∧ ∃ v2, QSt W2 W.heap.size (c.Q.at bb') sb' mb' v2 (doX c.X c.mode s ((movesX c.Q.L c.X c.mode s).getD k 0).toNat)) ∧ ((doX c.X c.mode s ((movesX c.Q.L c.X c.mode s).getD k 0).toNat).fell = false → StP c (q + 1) (doX c.X c.mode s ((movesX c.Q.L c.X c.mode s).getD k 0).toNat)) ∧ (doX c.X c.mode s ((movesX c.Q.L c.X c.mode s).getD k 0).toNat).prints.length ≤ 10000 := by
  have hs := h.stp
  have hmv := getD_mv hk
  have hpr := hs.pr
  obtain ⟨h1, h2, h3, h4⟩ := pmove_any W' W.heap.size (c.Q.at bb') sb' mb' v' s c.ca c.X c.n c.m c.lk c.rg hq hb.size hs.ok hc.cok (hc.prog.below (by have := h.wk.low.trans (hb.mono (by rw [hc.Bw]; exact h.wk.low.size)); rw [hc.Bw] at this; exact this)) (by omega) hs.fell hc.hM hc.nt hs.lk _ hmv
  refine ⟨h1.mono fun e W2 ⟨he, v2, hq2, hm2⟩ => ⟨he, hb.trans (hm2.below hb.size hq.fam.low), v2, hq2⟩, fun hf => ⟨h2, hf, h4, hs.v.move hs.ok hc.cok.n4 hc.fits hmv, ?_⟩, ?_⟩
  · show (doX c.X (c.Q.at bb').K.mode s _).prints.length ≤ _
    omega
  · show (doX c.X (c.Q.at bb').K.mode s _).prints.length ≤ _
    omega
/-- It was come to. -/
theorem FlI.come {fs ff : Nat} {cs cf : Array Value} (hc : WcOk c) (hO : Obs c fs ff cs cf N Ob) (h : FlI c N Ob W P Z s q sb mb bb v pa pl pc K0 F0 k K O F os) (hk : k < (movesX c.Q.L c.X c.mode s).length) {s' : Sx} (hs' : doX c.X c.mode s ((movesX c.Q.L c.X c.mode s).getD k 0).toNat = s') (hf : s'.fell = false) {sb' : Nat} {e : Ending} (hq : ComeQ c W K O os sb' s' e W') :
    e = .returned (.tuple #[]) ∧ ∃ K' O' os', FlI c N Ob W' P Z s q sb mb bb v pa pl pc K0 F0 (k + 1) K' O' F os' := by
  obtain ⟨rfl, hfr, hq⟩ := hq
  refine ⟨rfl, ?_⟩
  have hob := hO.keep _ _ _ _ h.ob hfr
  have hst := Fr.qst h.st hfr (fun r k cs => nw_cells (hc.ty r))
  have hpk : ∃ C, IsP W' C pa pl pc (movesX c.Q.L c.X c.mode s) := by
    obtain ⟨C, hp⟩ := h.picks
    exact ⟨C, hp.is, Fr.own hp.own hfr (fun k cs => nw_cells (by unfold wTy; decide))⟩
  have hkl := h.kl
  have hfl := h.fl
  rcases hq with ⟨hin, hw⟩ | ⟨hnew, hw⟩
  · exact ⟨K, O, os, hw, hob, h.df, h.fwd.next (fun t ht => ht) (fun t ht => ht) (fun hf' => by rw [hs', hf] at hf'; cases hf') (fun _ => by rw [hs']; exact hin), hst, hpk, by omega, by omega, h.at_⟩
  · refine ⟨K ++ [s'], O ++ [s'], os ++ [sb'], hw, hob, h.df.come h.mem (mem_nx.mpr ⟨_, getD_mv hk, hs', hf⟩) hnew, h.fwd.next (fun t ht => List.mem_append_left _ ht) (fun t ht => ht) (fun hf' => by rw [hs', hf] at hf'; cases hf') (fun _ => by rw [hs']; simp), hst, hpk, by rw [List.length_append, List.length_singleton]; omega, by omega, by rw [List.length_append]; have := h.at_.1; omega, ?_⟩
    have h1 := h.at_.1
    rw [show (K ++ [s']).getD q default = K.getD q default by simp [List.getD, List.getElem?_append_left h1]]
    exact h.at_.2
/-- It fell. -/
theorem FlI.fall {fs ff : Nat} {cs cf : Array Value} (hO : Obs c fs ff cs cf N Ob) (h : FlI c N Ob W P Z s q sb mb bb v pa pl pc K0 F0 k K O F os) (hz : s ∈ Z) (hk : k < (movesX c.Q.L c.X c.mode s).length) {s' : Sx} (hs' : doX c.X c.mode s ((movesX c.Q.L c.X c.mode s).getD k 0).toNat = s') (hf : s'.fell = true) (hob : Ob W' Z (F ++ [s'])) (hfr : Fr c.B N W W') :
    FlI c N Ob W' P Z s q sb mb bb v pa pl pc K0 F0 (k + 1) K O (F ++ [s']) os := by
  have hkl := h.kl
  have hfl := h.fl
  refine ⟨h.wk.kept hfr (fun k cs t ht => hO.n1 k cs t (ht.imp id Or.inl)) hO.n2 hO.n3, hob, ?_, h.fwd.next (fun t ht => ht) (fun t ht => List.mem_append_left _ ht) (fun _ => by rw [hs']; simp) (fun hf' => by rw [hs', hf] at hf'; cases hf'), Fr.qst h.st hfr hO.n3, ?_, by omega, by rw [List.length_append, List.length_singleton]; omega, h.at_⟩
  · rw [← hs'] at hf ⊢
    exact h.df.fell hz (getD_mv hk) hf
  · obtain ⟨C, hp⟩ := h.picks
    exact ⟨C, hp.is, Fr.own hp.own hfr (fun k cs => hO.n1 k cs _ (.inr (.inr rfl)))⟩
end

set_option maxRecDepth 100000 in
set_option maxHeartbeats 3200000 in
/-- What a state becomes is handed on. -/
theorem follow_any (c : Wc) (hc : WcOk c) (N : Nat → Obj → Prop) (Ob : World → List Sx → List Sx → Prop) (fs ff : Nat) (cs cf : Array Value) (hO : Obs c fs ff cs cf N Ob) (W : World) (P Z : List Sx) (s : Sx) (q sb mb bb : Nat) (v : Rp → Value) (K O F : List Sx) (os : List Nat) (hwk : WkI c W K O os) (hob : Ob W Z F) (hdf : Df c.Q.L c.X c.mode c.s0 K P Z O F) (hst : QSt W 0 (c.Q.at bb) sb mb v s) (hat : q < K.length ∧ K.getD q default = s) (hz : s ∈ Z) (hK : K.length ≤ 4200) (hZ : Z.length ≤ 4200) (hF : F.length ≤ 16 * 4200) :
    Calls Tryz.prog 69 #[.pointer (some ⟨sb, 0, none⟩), .func (.func 67) #[] #[.pointer (some ⟨c.tb, 0, none⟩), .pointer (some ⟨c.kb, 0, none⟩), .pointer (some ⟨c.ob, 0, none⟩)], .func (.func ff) #[] cf] W fun e W' => e = .returned (.tuple #[]) ∧ ∃ K' O' F' os', WkI c W' K' O' os' ∧ Ob W' Z F' ∧ Df c.Q.L c.X c.mode c.s0 K' P Z O' F' ∧ Fwd c.Q.L c.X c.mode s K' F' (movesX c.Q.L c.X c.mode s).length ∧ K'.length ≤ K.length + 16 ∧ F'.length ≤ F.length + 16 := by
  have hs : StP c q s := by
    have := hwk.ok q hat.1
    rw [hat.2] at this
    exact this
  have HP : Hid (Calls Tryz.prog 49 #[.pointer (some ⟨sb, 0, none⟩)] W fun e w' => ∃ a len cp, e = .returned (.slice a len cp) ∧ Hid (FlI c N Ob w' P Z s q sb mb bb v a len cp K.length F.length 0 K O F os) ∧ (movesX c.Q.L c.X c.mode s).length = len) := by
    refine (picks_any W 0 (c.Q.at bb) sb mb v s c.ca c.X c.n c.m c.lk c.rg hc.n0 hst hc.hM (Nat.zero_le _) hc.nt hs.ok hc.cok (hc.prog.below (by have := hwk.low; rw [hc.Bw] at this; exact this))).mono ?_
    rintro e w' ⟨a, len, cp, he, hp, hb⟩
    refine ⟨a, len, cp, he, ⟨hwk.below hc hb, hO.keep _ _ _ _ hob (Fr.of_below (by rw [hc.Bw]; exact hwk.low.size) hb), hdf, fun j hj => absurd hj (Nat.not_lt_zero _), hst.below hb, ⟨_, hp⟩, by omega, by omega, hat⟩, hp.is⟩
  have hm16 : (movesX c.Q.L c.X c.mode s).length ≤ 16 := by
    have h1 := mvsT_len c.Q.L c.X c.mode s (fun t ht => hs.ok.wlen t (by rw [← hs.ok.ths]; exact ht)) s.ths.length (Nat.le_refl _)
    rw [mvsT_all] at h1
    have h2 := hs.ok.ths
    have h3 := hc.cok.n4
    omega
  have kF := hO.fnF
  have HCC := Hid.out (p := Hid _) hc
  have HOO := Hid.out (p := Hid _) hO
  have HB : Hid (q ≤ 4500 ∧ K.length ≤ 4200 ∧ Z.length ≤ 4200 ∧ F.length ≤ 16 * 4200 ∧ s ∈ Z) := ⟨by have := hat.1; omega, hK, hZ, hF, hz⟩
  have HKO : Hid (∀ W K O F os pa pl pc k, FlI c N Ob W P Z s q sb mb bb v pa pl pc K.length F.length k K O F os → True) := fun _ _ _ _ _ _ _ _ _ _ => trivial
  obtain ⟨ML, hML⟩ : ∃ n, (movesX c.Q.L c.X c.mode s).length = n := ⟨_, rfl⟩
  have HML : Hid ((movesX c.Q.L c.X c.mode s).length = ML) := hML
  rw [hML] at HP hm16 ⊢
  obtain ⟨K0, hK0⟩ : ∃ n, K.length = n := ⟨_, rfl⟩
  obtain ⟨F0, hF0⟩ : ∃ n, F.length = n := ⟨_, rfl⟩
  rw [hK0] at HP HB ⊢
  rw [hF0] at HP HB ⊢
  clear hwk hob hdf hst hat hz hK hZ hF hs hc hO hML HKO hK0 hF0
  go_enter Tryz.func69, Tryz.ntmps69
  go_wp2_with fail
  refine Calls.mono HP.out ?_
  rintro e w1 ⟨pa, pl, pc, rfl, HI, rfl⟩
  clear HP
  go_wp2_with fail
  go_loopw [12] (fun i wr => ∃ (k : Nat) (K O F : List Sx) (os : List Nat), k ≤ ML ∧ i = .int .i64 k ∧ Hid (FlI c N Ob wr P Z s q sb mb bb v pa ML pc K0 F0 k K O F os)) (fun i _ => ML - (intOf i).toNat)
  case atStart => exact ⟨0, K, O, F, os, Nat.zero_le _, rfl, HI⟩
  case round =>
    obtain ⟨k, K, O, F, os, hk, rfl, HF⟩ := hrel
    clear HI
    by_cases hlt : k < ML
    · obtain ⟨C, hp⟩ := HF.out.picks
      obtain ⟨lb, lcp, h1, h2, _, _⟩ := fam_block hp.own (by omega)
      simp only [Value.slice.injEq] at h1
      obtain ⟨rfl, -, -⟩ := h1
      have hkm : k < (movesX c.Q.L c.X c.mode s).length := by rw [HML.out]; exact hlt
      have HKM : Hid (k < (movesX c.Q.L c.X c.mode s).length) := hkm
      obtain ⟨e1, e2⟩ := pickV_at hkm
      have p0 := fam_cell hp.own h2 e1
      have p1 := fam_cell hp.own h2 e2
      obtain ⟨mv, hmv⟩ : ∃ x, (movesX c.Q.L c.X c.mode s).getD k 0 = x := ⟨_, rfl⟩
      have HMV : Hid ((movesX c.Q.L c.X c.mode s).getD k 0 = mv) := hmv
      rw [hmv] at p0 p1
      obtain ⟨x0, hx0⟩ : ∃ x, mv / 8 = x := ⟨_, rfl⟩
      obtain ⟨x1, hx1⟩ : ∃ x, mv % 8 - 1 = x := ⟨_, rfl⟩
      have HX : Hid (mv / 8 = x0 ∧ mv % 8 - 1 = x1) := ⟨hx0, hx1⟩
      rw [hx0] at p0
      rw [hx1] at p1
      obtain ⟨V, hV⟩ : ∃ V, V = wr.alloc (.cells #[.int .i64 x0, .int .i64 x1] 118) := ⟨_, rfl⟩
      have hbV : Below wr.heap.size wr V := by rw [hV]; exact (Below.refl _ _).alloc (Nat.le_refl _) _
      have hVb : V.heap[wr.heap.size]? = some (.cells #[.int .i64 x0, .int .i64 x1] 118) := by rw [hV]; exact heap_alloc_new _ _
      have HFV := Hid.out (p := Hid _) (HF.out.below HCC.out HOO.out hbV)
      have HV : Hid (wr.alloc (.cells #[.int .i64 x0, .int .i64 x1] 118) = V) := hV.symm
      have HCL := Hid.out (p := Hid _) (sclone_any V 0 (c.Q.at bb) sb mb v s c.cf HCC.out.hC HFV.out.st (HFV.out.stp.kok HCC.out (by have := HB.out.1; omega) bb))
      have HVB := Hid.out (p := Hid _) hVb
      clear hp h2 hkm e1 e2 hmv hx0 hx1 hV hbV hVb HF
      go_wp2_with fail
      rw [HV.out]
      refine Calls.mono HCL.out ?_
      rintro e w2 ⟨sb', mb', bb', v', rfl, hq2, hb2⟩
      have pb2 : w2.heap[wr.heap.size]? = some (.cells #[.int .i64 x0, .int .i64 x1] 118) := (hb2.block _ (box_lt HVB.out)).trans HVB.out
      have q0 : w2.cell? ⟨wr.heap.size, 0, none⟩ = some (.int .i64 x0) := box_cell pb2 rfl
      have q1 : w2.cell? ⟨wr.heap.size, 1, none⟩ = some (.int .i64 x1) := box_cell pb2 rfl
      obtain ⟨hdo, hst', hpr'⟩ := HFV.out.move HCC.out hb2 hq2 HKM.out HB.out.1
      obtain ⟨s', hs'⟩ : ∃ x, doX c.X c.mode s mv.toNat = x := ⟨_, rfl⟩
      have HS' : Hid (doX c.X c.mode s ((movesX c.Q.L c.X c.mode s).getD k 0).toNat = s') := by show _ = _; rw [HMV.out]; exact hs'
      rw [HS'.out, HMV.out, HX.out.1, HX.out.2] at hdo
      rw [HS'.out] at hst' hpr'
      have HDO := Hid.out (p := Hid _) hdo
      have HST' := Hid.out (p := Hid _) (And.intro hst' hpr')
      clear HCL hq2 hb2 pb2 hdo hst' hpr' hs' p0 p1 HV HVB
      go_wp2_with fail
      refine Calls.mono HDO.out ?_
      rintro e w3 ⟨rfl, hb3, v3, hq3⟩
      have HF3 := Hid.out (p := Hid _) (HFV.out.below HCC.out HOO.out hb3)
      clear HDO hb3 HFV q0 q1
      cases hf : s'.fell with
      | false =>
        have HCM : Hid (Calls Tryz.prog 67 #[.pointer (some ⟨sb', 0, none⟩), .pointer (some ⟨c.tb, 0, none⟩), .pointer (some ⟨c.kb, 0, none⟩), .pointer (some ⟨c.ob, 0, none⟩)] w3 (fun e W' => e = .returned (.tuple #[]) ∧ ∃ K' O' os', FlI c N Ob W' P Z s q sb mb bb v (some ⟨lb, 0, none⟩) ML pc K0 F0 (k + 1) K' O' F os')) := by
          refine (come_any c HCC.out w3 K O os HF3.out.wk sb' mb' bb' _ v3 s' hq3 ((HST'.out.1 hf).mono ?_) ?_ ?_).mono (fun e W' hcq => HF3.out.come HCC.out HOO.out HKM.out HS'.out hf hcq)
          · exact HF3.out.at_.1
          · have := HF3.out.kl; have := HB.out.2.1; omega
          · have := HF3.out.df.len; omega
        clear hf hq3 HF3 HST' HS' HMV HX
        go_wp2_with fail
        refine Calls.mono HCM.out ?_
        rintro e w4 ⟨rfl, K4, O4, os4, h4⟩
        have H4 := Hid.out (p := Hid _) h4
        clear HCM h4
        go_wp2_with fail
        go_roundw
        case rel => exact ⟨k + 1, K4, O4, F, os4, by omega, by go_num, H4⟩
        case measure => simp [intOf]; omega
      | true =>
        have HCM : Hid (Calls Tryz.prog ff (#[.pointer (some ⟨sb', 0, none⟩)] ++ cf) w3 (fun e W' => e = .returned (.tuple #[]) ∧ FlI c N Ob W' P Z s q sb mb bb v (some ⟨lb, 0, none⟩) ML pc K0 F0 (k + 1) K O (F ++ [s']) os)) := by
          refine (HOO.out.fell w3 Z F sb' mb' bb' v3 s' HF3.out.ob hq3.zero HST'.out.2 ?_ ?_ HF3.out.wk.low).mono (fun e W' hcq => ⟨hcq.1, HF3.out.fall HOO.out HB.out.2.2.2.2 HKM.out HS'.out hf hcq.2.1 hcq.2.2⟩)
          · have := HB.out.2.2.1; omega
          · have := HF3.out.fl; have := HB.out.2.2.2.1; omega
        clear hf hq3 HF3 HST' HS' HMV HX
        go_wp2_with fail
        refine Calls.mono HCM.out ?_
        rintro e w4 ⟨rfl, h4⟩
        have H4 := Hid.out (p := Hid _) h4
        clear HCM h4
        go_wp2_with fail
        go_roundw
        case rel => exact ⟨k + 1, K, O, F ++ [s'], os, by omega, by go_num, H4⟩
        case measure => simp [intOf]; omega
    · obtain rfl : k = ML := by omega
      have HR : Hid (∃ K' O' F' os', WkI c wr K' O' os' ∧ Ob wr Z F' ∧ Df c.Q.L c.X c.mode c.s0 K' P Z O' F' ∧ Fwd c.Q.L c.X c.mode s K' F' k ∧ K'.length ≤ K0 + 16 ∧ F'.length ≤ F0 + 16) := by
        have h := HF.out
        have h1 := h.kl
        have h2 := h.fl
        exact ⟨K, O, F, os, h.wk, h.ob, h.df, h.fwd, by omega, by omega⟩
      clear HF
      go_wp2
      go_end0
      exact ⟨rfl, HR.out⟩
end

section
open Go.RowKit

/-- What holds between two rounds: Z were gone through. -/
structure WlI (c : Wc) (Ob : World → List Sx → List Sx → Prop) (W : World) (K Z O F : List Sx) (os : List Nat) : Prop where
  wk : WkI c W K O os
  ob : Ob W Z F
  df : Df c.Q.L c.X c.mode c.s0 K Z Z O F
  kl : K.length ≤ 4016
  fl : F.length ≤ 16 * Z.length
section
variable {c : Wc} {Ob : World → List Sx → List Sx → Prop} {N : Nat → Obj → Prop} {W W' : World} {K Z O F : List Sx} {os : List Nat}
theorem mem_index {K : List Sx} {s : Sx} (h : s ∈ K) : ∃ q, q < K.length ∧ K.getD q default = s := by
  obtain ⟨k, hk, e⟩ := List.getElem_of_mem h
  exact ⟨k, hk, by rw [List.getD_eq_getElem?_getD, List.getElem?_eq_getElem hk]; exact e⟩
/-- The list of what is open, as it lies. -/
theorem WkI.openB (h : WkI c W K O os) : ∃ oa oc, W.heap[c.ob]? = some (.cells #[.slice oa O.length oc] 125) ∧ W.ownsRow c.B 85 1 (.slice oa O.length oc) O.length (os.map fun b => .pointer (some ⟨b, 0, none⟩)) := by
  obtain ⟨v, h1, h2⟩ := h.obox
  obtain ⟨oa, oc, rfl⟩ := fam_form h2
  rw [h.len] at h1 h2
  exact ⟨oa, oc, h1, h2⟩
/-- The last one is taken. -/
theorem WkI.pop {s : Sx} (hc : WcOk c) (h : WkI c W K (O ++ [s]) os) : ∃ g oc sb os', os = os' ++ [sb] ∧ W.cell? ⟨c.ob, 0, none⟩ = some (.slice (some ⟨g, 0, none⟩) (O.length + 1) oc) ∧ O.length + 1 ≤ oc ∧ W.frozen? ⟨c.ob, 0, none⟩ = false ∧ W.cell? ⟨g, O.length, none⟩ = some (.pointer (some ⟨sb, 0, none⟩)) ∧
    Hid (Fr c.B (NW c.km) W (W.setCell ⟨c.ob, 0, none⟩ (.slice (some ⟨g, 0, none⟩) O.length oc)) ∧ WkI c (W.setCell ⟨c.ob, 0, none⟩ (.slice (some ⟨g, 0, none⟩) O.length oc)) K O os' ∧ ∃ mb bb v, QSt (W.setCell ⟨c.ob, 0, none⟩ (.slice (some ⟨g, 0, none⟩) O.length oc)) 0 (c.Q.at bb) sb mb v s) := by
  obtain ⟨oa, oc, h1, h2⟩ := h.openB
  have hl : (O ++ [s]).length = O.length + 1 := by simp
  rw [hl] at h1 h2
  obtain ⟨g, cp, e, hg, _, _⟩ := fam_block h2 (by omega)
  simp only [Value.slice.injEq] at e
  obtain ⟨rfl, -, rfl⟩ := e
  have hcap : O.length + 1 ≤ oc := by
    rcases h2.2 with ⟨h0, _⟩ | ⟨g', cap', cur, hv, _, _, h3, _⟩
    · cases h0
    · simp only [Value.slice.injEq, true_and] at hv
      rw [hv.2]; exact h3
  have hol : os.length = O.length + 1 := by rw [h.len, hl]
  obtain ⟨os', sb, rfl⟩ : ∃ os' sb, os = os' ++ [sb] := by
    rcases List.eq_nil_or_concat os with e | ⟨l, b, e⟩
    · rw [e] at hol; cases hol
    · exact ⟨l, b, by rw [e]; simp⟩
  have hol' : os'.length = O.length := by simpa using hol
  have hcell : W.cell? ⟨g, O.length, none⟩ = some (.pointer (some ⟨sb, 0, none⟩)) := by
    refine fam_cell h2 hg ?_
    rw [List.map_append, ← hol', List.getElem?_append_right (by simp)]
    simp
  have hf : Fr c.B (NS c.km) W (W.setCell ⟨c.ob, 0, none⟩ (.slice (some ⟨g, 0, none⟩) O.length oc)) := Fr.cell hc.ob h1
  have hF := hf.mono (fun _ _ => ns_nw)
  refine ⟨g, oc, sb, os', rfl, box_cell h1 rfl, hcap, box_free h1, hcell, hF, ?_, ?_⟩
  · obtain ⟨bs, tv, tb1, tr1⟩ := h.text
    obtain ⟨nk, D, hn, hm, hsz, hh⟩ := h.known
    refine WkI.turn hc h hF (bs := bs) ⟨tv, hf.kept _ _ tb1 (ns_cells (by decide) (by decide)), Fr.own tr1 hf (fun k cs => ns_cells (by decide) (by decide))⟩ (hf.kept _ _ h.kbox (ns_cells (by decide) (by decide))) hn ?_ hsz hh (heap_set_same h1) ?_ hol' (fun i hi => ?_) h.ok
    · refine ownsMap_kept hm ?_
      obtain ⟨es, ck, hb, _⟩ := hm
      rw [Below.heap_setCell _ _ _ _ (fun e => by rw [show c.km = c.ob from e, h1] at hb; cases hb)]
    · have h3 := fam_shrink h2 (m := O.length) (by omega)
      rw [hol']
      have e : ((os' ++ [sb]).map fun b => Value.pointer (some ⟨b, 0, none⟩)).take (O.length * 1) = os'.map fun b => Value.pointer (some ⟨b, 0, none⟩) := by
        rw [Nat.mul_one, List.map_append, ← hol', List.take_left' (by simp)]
      rw [e] at h3
      exact fam_keeps h3 (fun k hk => Below.heap_setCell _ _ _ _ (fun e => own_type h3 h1 (by decide) (by rw [hk]; exact congrArg some e)))
    · obtain ⟨mb, bb, C, v, hq⟩ := h.states i (by rw [hl]; omega)
      refine ⟨mb, bb, C, v, ?_⟩
      rw [show (os' ++ [sb]).getD i 0 = os'.getD i 0 by simp [List.getD, List.getElem?_append_left (show i < os'.length by omega)], show (O ++ [s]).getD i default = O.getD i default by simp [List.getD, List.getElem?_append_left hi]] at hq
      exact hq
  · obtain ⟨mb, bb, C, v, hq⟩ := h.states O.length (by rw [hl]; omega)
    rw [show (os' ++ [sb]).getD O.length 0 = sb by rw [← hol']; simp [List.getD], show (O ++ [s]).getD O.length default = s by simp [List.getD]] at hq
    exact ⟨mb, bb, v, (Fr.qst hq hF (fun r k cs => nw_cells (hc.ty r))).zero⟩
/-- A state is seen and its moves are handed on. -/
theorem WlI.seen {fs ff : Nat} {cs cf : Array Value} (hO : Obs c fs ff cs cf N Ob) {s : Sx} {W1 : World} (h : WlI c Ob W K Z (O ++ [s]) F os) (hf : Fr c.B (NW c.km) W W1) {os' : List Nat} (hw : WkI c W1 K O os') {sb mb bb : Nat} {v : Rp → Value} (hq : QSt W1 0 (c.Q.at bb) sb mb v s) (hK : K.length ≤ 4000) : Calls Tryz.prog fs (#[.pointer (some ⟨sb, 0, none⟩)] ++ cs) W1 fun e W' => e = .returned (.tuple #[]) ∧ Ob W' (Z ++ [s]) F ∧ WkI c W' K O os' ∧ QSt W' 0 (c.Q.at bb) sb mb v s := by
  have hs : s ∈ K := (h.df.split s).2 (.inr (by simp))
  obtain ⟨q, hq1, hq2⟩ := h.wk.mem hs
  have hl := h.df.len
  have hfl := h.fl
  rw [List.length_append] at hl
  refine (hO.see W1 Z F sb mb bb v s q (hO.keep _ _ _ _ h.ob hf) hq hq2 (by omega) (by omega) (by omega) hw.low).mono fun e W' ⟨he, h1, h2⟩ => ⟨he, h1, hw.kept h2 (fun k cs t ht => hO.n1 k cs t (ht.imp id Or.inl)) hO.n2 hO.n3, Fr.qst hq h2 hO.n3⟩
theorem WlI.followed {fs ff : Nat} {cs cf : Array Value} (hc : WcOk c) (hO : Obs c fs ff cs cf N Ob) {s : Sx} {W1 : World} (h : WlI c Ob W K Z (O ++ [s]) F os) {os' : List Nat} (hw : WkI c W1 K O os') (hob : Ob W1 (Z ++ [s]) F) {sb mb bb : Nat} {v : Rp → Value} (hq : QSt W1 0 (c.Q.at bb) sb mb v s) (hK : K.length ≤ 4000) :
    Calls Tryz.prog 69 #[.pointer (some ⟨sb, 0, none⟩), .func (.func 67) #[] #[.pointer (some ⟨c.tb, 0, none⟩), .pointer (some ⟨c.kb, 0, none⟩), .pointer (some ⟨c.ob, 0, none⟩)], .func (.func ff) #[] cf] W1 fun e W' => e = .returned (.tuple #[]) ∧ ∃ K' O' F' os', WlI c Ob W' K' (Z ++ [s]) O' F' os' := by
  have hs : s ∈ K := (h.df.split s).2 (.inr (by simp))
  obtain ⟨q, hat⟩ := mem_index hs
  have hl := h.df.len
  have hfl := h.fl
  rw [List.length_append] at hl
  refine (follow_any c hc N Ob fs ff cs cf hO W1 Z (Z ++ [s]) s q sb mb bb v K O F os' hw hob h.df.pop hq hat (by simp) (by omega) (by rw [List.length_append, List.length_singleton]; omega) (by omega)).mono ?_
  rintro e W' ⟨he, K', O', F', os2, h1, h2, h3, h4, h5, h6⟩
  exact ⟨he, K', O', F', os2, h1, h2, h3.gone h4, by omega, by rw [List.length_append, List.length_singleton]; omega⟩
end

set_option maxRecDepth 100000 in
set_option maxHeartbeats 3200000 in
/-- All states are gone through. -/
theorem walk_any (c : Wc) (hc : WcOk c) (N : Nat → Obj → Prop) (Ob : World → List Sx → List Sx → Prop) (fs ff : Nat) (cs cf : Array Value) (hO : Obs c fs ff cs cf N Ob) (w : World) (hkm : c.km = w.heap.size) (hkb : c.kb = w.heap.size + 1) (hobb : c.ob = w.heap.size + 1 + 1) (htb : c.tb = w.heap.size + 1 + 1 + 1) (hlow : Below c.B c.w0 w) (sb mb bb : Nat) (v : Rp → Value) (hst : QSt w 0 (c.Q.at bb) sb mb v c.s0) (hs0 : StP c 0 c.s0) (hob : ∀ V, Below w.heap.size w V → w.heap.size < V.heap.size → Ob V [] []) :
    Calls Tryz.prog 53 #[.pointer (some ⟨sb, 0, none⟩), .func (.func fs) #[] cs, .func (.func ff) #[] cf] w fun e W' => ∃ K Z O F os, e = .returned (.bool (decide (K.length ≤ 4000))) ∧ WlI c Ob W' K Z O F os ∧ (K.length ≤ 4000 → O = []) := by
  have hBw : c.B ≤ w.heap.size := by rw [hc.Bw]; exact hlow.size
  obtain ⟨w4, hw4⟩ : ∃ V, V = (((w.alloc (.map #[] 0)).alloc (.cells #[.map (some w.heap.size)] 124)).alloc (.cells #[nilV] 125)).alloc (.cells #[nilV] 126) := ⟨_, rfl⟩
  have hb4 : Below w.heap.size w w4 := by rw [hw4]; exact ((((Below.refl _ _).alloc (Nat.le_refl _) _).alloc (by simp) _).alloc (by simp; omega) _).alloc (by simp; omega) _
  have hwk0 : WkI c w4 [] [] [] := by
    have n0 := heap_alloc_new w (.map #[] 0)
    have n1 := heap_alloc_new (w.alloc (.map #[] 0)) (.cells #[.map (some w.heap.size)] 124)
    have n2 := heap_alloc_new ((w.alloc (.map #[] 0)).alloc (.cells #[.map (some w.heap.size)] 124)) (.cells #[nilV] 125)
    have n3 := heap_alloc_new (((w.alloc (.map #[] 0)).alloc (.cells #[.map (some w.heap.size)] 124)).alloc (.cells #[nilV] 125)) (.cells #[nilV] 126)
    simp only [World.size_alloc] at n1 n2 n3
    have up : ∀ (V : World) (o o' : Obj) (k : Nat), V.heap[k]? = some o → (V.alloc o').heap[k]? = some o := fun V o o' k hk => (Below.heap_alloc _ _ _ (box_lt hk)).trans hk
    have e0 : w4.heap[w.heap.size]? = some (.map #[] 0) := by rw [hw4]; exact up _ _ _ _ (up _ _ _ _ (up _ _ _ _ n0))
    have e1 : w4.heap[w.heap.size + 1]? = some (.cells #[.map (some w.heap.size)] 124) := by rw [hw4]; exact up _ _ _ _ (up _ _ _ _ n1)
    have e2 : w4.heap[w.heap.size + 1 + 1]? = some (.cells #[nilV] 125) := by rw [hw4]; exact up _ _ _ _ n2
    have e3 : w4.heap[w.heap.size + 1 + 1 + 1]? = some (.cells #[nilV] 126) := by rw [hw4]; exact n3
    refine ⟨⟨[], _, by rw [htb]; exact e3, World.ownsRow_nil _ _ _ _⟩, by rw [hkb, hkm]; exact e1, ⟨0, .map [], Nat.le_refl _, ?_, rfl, fun l => ?_⟩, ⟨_, by rw [hobb]; exact e2, World.ownsRow_nil _ _ _ _⟩, rfl, fun i hi => absurd hi (Nat.not_lt_zero _), fun k hk => absurd hk (Nat.not_lt_zero _), hlow.trans (hb4.mono hBw)⟩
    · have := World.ownsMap_made (H := Unit) w Tryz.prog 9 (unitElem (H := Unit))
      rw [hkm]
      refine ownsMap_kept this ?_
      rw [e0, n0]
    · simp [Maps.has]
  have hob4 := hob w4 hb4 (by rw [hw4]; simp; omega)
  have HC1 : Hid (Calls Tryz.prog 67 #[.pointer (some ⟨sb, 0, none⟩), .pointer (some ⟨c.tb, 0, none⟩), .pointer (some ⟨c.kb, 0, none⟩), .pointer (some ⟨c.ob, 0, none⟩)] w4 (fun e W' => e = .returned (.tuple #[]) ∧ ∃ os, WlI c Ob W' [c.s0] [] [c.s0] [] os)) := by
    refine (come_any c hc w4 [] [] [] hwk0 sb mb bb 0 v c.s0 (hst.below hb4) hs0 (by simp) (Nat.le_refl _)).mono ?_
    rintro e W' ⟨he, hfr, hq⟩
    rcases hq with ⟨hin, _⟩ | ⟨_, hw⟩
    · cases hin
    · exact ⟨he, _, hw, hO.keep _ _ _ _ hob4 hfr, Df.begin, by simp, by simp⟩
  have kS := hO.fnS
  have kF := hO.fnF
  have HCC := Hid.out (p := Hid _) hc
  have HOO := Hid.out (p := Hid _) hO
  have HW4 : Hid ((((w.alloc (.map #[] 0)).alloc (.cells #[.map (some w.heap.size)] 124)).alloc (.cells #[nilV] 125)).alloc (.cells #[nilV] 126) = w4) := hw4.symm
  have hmm := @run_makeMap Tryz.prog
  clear hc hO hlow hst hs0 hob hBw hb4 hwk0 hob4 hw4
  go_enter Tryz.func53, Tryz.ntmps53
  rw [htb, hkb, hobb] at HC1
  go_wp2_with fail
  rw [HW4.out]
  refine Calls.mono HC1.out ?_
  rintro e w5 ⟨rfl, os0, h5⟩
  have H5 := Hid.out (p := Hid _) h5
  clear HC1 h5 HW4
  go_wp2_with fail
  go_loopg [11] 4300 (fun g x wr => ∃ (K Z O F : List Sx) (os : List Nat), Hid (WlI c Ob wr K Z O F os ∧ g + Z.length = 4300))
  case atStart => exact ⟨[c.s0], [], [c.s0], [], os0, H5.out, rfl⟩
  case round =>
    obtain ⟨K, Z, O, F, os, HL⟩ := hrel
    clear H5
    obtain ⟨nk, D, hnk, hm, hsz, hhas⟩ := HL.out.1.wk.known
    have hlen := fun ty => hm.len Tryz.underlying124 ty
    obtain ⟨oa, oc, ob1, or1⟩ := HL.out.1.wk.openB
    have kc : wr.cell? ⟨c.kb, 0, none⟩ = some (.map (some c.km)) := box_cell HL.out.1.wk.kbox rfl
    have occ : wr.cell? ⟨c.ob, 0, none⟩ = some (.slice oa O.length oc) := box_cell ob1 rfl
    rw [hkb] at kc
    rw [hobb] at occ
    rw [hsz, hkm] at hlen
    rw [hkm] at kc
    have hkl := HL.out.1.kl
    have hdl := HL.out.1.df.len
    obtain ⟨kn, hkn⟩ : ∃ k, K.length = k := ⟨_, rfl⟩
    have HKN : Hid (K.length = kn) := hkn
    obtain ⟨on, hon⟩ : ∃ k, O.length = k := ⟨_, rfl⟩
    have HON : Hid (O.length = on) := hon
    rw [hkn] at hlen hkl hdl
    rw [hon] at occ hdl
    have hon4 : on ≤ 4016 := by omega
    clear hnk hm hsz hhas ob1 or1 hkn hon
    by_cases hgo : 0 < on ∧ kn ≤ 4000
    · obtain ⟨ho0, hk4⟩ := hgo
      obtain ⟨O', s, rfl⟩ : ∃ O' s, O = O' ++ [s] := by
        rcases List.eq_nil_or_concat O with e | ⟨l, b, e⟩
        · have := HON.out; rw [e] at this; simp at this; omega
        · exact ⟨l, b, by rw [e]; simp⟩
      obtain ⟨g, oc2, sb', os', hos, o1, ocl, o2, o3, HP⟩ := HL.out.1.wk.pop HCC.out
      rw [hobb] at o1 o2 HP
      obtain ⟨hfr, hw2, mb', bb', v', hq2⟩ := HP.out
      have hn1 : O'.length + 1 = on := by have := HON.out; simpa using this
      obtain ⟨n1, hn1'⟩ : ∃ k, O'.length = k := ⟨_, rfl⟩
      have HN1 : Hid (O'.length = n1) := hn1'
      rw [hn1'] at o1 o3 hn1 hfr hw2 hq2 ocl
      subst hn1
      have HS1 := Hid.out (p := Hid _) (HL.out.1.seen HOO.out hfr hw2 hq2 (by rw [HKN.out]; exact hk4))
      have hb2 : (((n1 + 1 : Nat) : Int)) - 1 = (n1 : Int) := by omega
      clear hos HP hfr hw2 hq2 occ hn1'
      go_wp2_with fail
      refine Calls.mono HS1.out ?_
      rintro e w6 ⟨rfl, hob6, hw6, hq6⟩
      have HC6 := Hid.out (p := Hid _) (HL.out.1.followed HCC.out HOO.out hw6 hob6 hq6 (by rw [HKN.out]; exact hk4))
      rw [htb, hkb, hobb] at HC6
      have HZ : Hid (Z.length < 4001 ∧ gk + Z.length = 4300) := ⟨by
        have h1 := HL.out.1.df.len
        rw [HKN.out, List.length_append] at h1
        simp only [List.length_singleton] at h1
        omega, HL.out.2⟩
      clear HS1 hob6 hw6 hq6 HL o1 o2 o3 kc hlen
      go_wp2_with fail
      refine Calls.mono HC6.out ?_
      rintro e w7 ⟨rfl, K7, O7, F7, os7, h7⟩
      have H7 := Hid.out (p := Hid _) h7
      clear HC6 h7
      go_wp2_with fail
      go_roundg (gk - 1)
      case rel =>
        refine ⟨K7, Z ++ [s], O7, F7, os7, H7.out, ?_⟩
        have h1 := HZ.out
        rw [List.length_append, List.length_singleton]
        omega
      case measure => have h1 := HZ.out; omega
    · have HR : Hid (∃ K Z O F os, Ending.returned (.bool (decide (kn ≤ 4000))) = Ending.returned (.bool (decide (K.length ≤ 4000))) ∧ WlI c Ob wr K Z O F os ∧ (K.length ≤ 4000 → O = [])) := by
        refine ⟨K, Z, O, F, os, by rw [HKN.out], HL.out.1, fun hk => ?_⟩
        refine List.eq_nil_of_length_eq_zero ?_
        rw [HON.out]
        rw [HKN.out] at hk
        omega
      by_cases ho0 : 0 < on
      · have hk4 : ¬ kn ≤ 4000 := fun h => hgo ⟨ho0, h⟩
        have hk4' : (4000 : Int) < (kn : Int) := by omega
        clear HL hgo
        go_wp2_with fail
        go_ret
        obtain ⟨K', Z', O', F', os', h1, h2⟩ := HR.out
        refine ⟨K', Z', O', F', os', ?_, h2⟩
        rw [← h1]
        exact ret_bool (by first | rfl | (rw [Bool.eq_iff_iff]; simp; omega) | (rw [Bool.eq_iff_iff]; simp))
      · obtain rfl : on = 0 := by omega
        clear HL hgo
        go_wp2_with fail
        go_ret
        obtain ⟨K', Z', O', F', os', h1, h2⟩ := HR.out
        refine ⟨K', Z', O', F', os', ?_, h2⟩
        rw [← h1]
        exact ret_bool (by first | rfl | (rw [Bool.eq_iff_iff]; simp; omega) | (rw [Bool.eq_iff_iff]; simp))
end

end Go.Proofs.YtefnmbnakphhfadGreatDoor
