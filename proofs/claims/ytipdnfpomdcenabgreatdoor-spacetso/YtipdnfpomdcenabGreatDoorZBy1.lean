/-
  What a state becomes is handed on, by the program.
  All that can be come to, as the document goes through it: what holds between two steps, and what put and Put make of it.
-/
import Derived.Test.YtipdnfpomdcenabGreatDoorWCome2
import Derived.Test.YtipdnfpomdcenabGreatDoorRLk
import Derived.Test.YtipdnfpomdcenabGreatDoorOcCmp
import Derived.Test.YtipdnfpomdcenabGreatDoorReachP
namespace Go.Proofs.YtipdnfpomdcenabGreatDoor
section
open Go.RowKit

theorem QSt.zero {w : World} {B : Nat} {Q : Cd} {sb mb : Nat} {v : Rp → Value} {s : Sx} (h : QSt w B Q sb mb v s) : QSt w 0 Q sb mb v s := ⟨⟨fun r => own_low (h.fam.own r) (Nat.zero_le _), h.fam.apart⟩, h.st, h.mem, h.box⟩
/-- Those who look on: what they hold when Z were seen and F fell; what they may turn. -/
structure Obs (c : Wc) (fs ff : Nat) (cs cf : Array Value) (N : Nat → Obj → Prop) (Ob : World → List Sx → List Sx → Prop) : Prop where
  fnS : ∀ (xs : Array Value) (w : World), (callFunc fs xs).run Tryz.prog w = .ok (.enter fs xs) w
  fnF : ∀ (xs : Array Value) (w : World), (callFunc ff xs).run Tryz.prog w = .ok (.enter ff xs) w
  n1 : ∀ k cs t, wTy t ∨ t = 143 ∨ t = 132 → ¬ N k (.cells cs t)
  n2 : ∀ o, ¬ N c.km o
  n3 : ∀ r k cs, ¬ N k (.cells cs (pTy c.Q.K r))
  keep : ∀ W W' Z F, Ob W Z F → Fr c.B (NW c.km) W W' → Ob W' Z F
  see : ∀ W Z F sb mb bb v s k, Ob W Z F → QSt W 0 (c.Q.at bb) sb mb v s → StP c k s → k ≤ 4500 → Z.length ≤ 4500 → F.length ≤ 16 * 4500 → Below c.B c.w0 W → Calls Tryz.prog fs (#[.pointer (some ⟨sb, 0, none⟩)] ++ cs) W fun e W' => e = .returned (.tuple #[]) ∧ Ob W' (Z ++ [s]) F ∧ Fr c.B N W W'
  fell : ∀ W Z F sb mb bb v s, Ob W Z F → QSt W 0 (c.Q.at bb) sb mb v s → s.prints.length ≤ 10000 → Z.length ≤ 4500 → F.length ≤ 16 * 4500 → Below c.B c.w0 W → Calls Tryz.prog ff (#[.pointer (some ⟨sb, 0, none⟩)] ++ cf) W fun e W' => e = .returned (.tuple #[]) ∧ Ob W' Z (F ++ [s]) ∧ Fr c.B N W W'
/-- What is known while a state's moves are handed on. -/
structure FlI (c : Wc) (N : Nat → Obj → Prop) (Ob : World → List Sx → List Sx → Prop) (W : World) (P Z : List Sx) (s : Sx) (q : Nat) (sb mb bb : Nat) (v : Rp → Value) (pa : Option Addr) (pl pc : Nat) (K0 F0 k : Nat) (K O F : List Sx) (os : List Nat) : Prop where
  wk : WkI c W K O os
  ob : Ob W Z F
  df : Df c.Q.L c.X c.mode c.s0 K P Z O F
  fwd : Fwd c.Q.L c.X c.mode s K F k
  st : QSt W 0 (c.Q.at bb) sb mb v s
  picks : ∃ C, IsP W C pa pl pc (movesX c.Q.L c.X c.mode s)
  kl : K.length ≤ K0 + k
  fl : F.length ≤ F0 + k
  at_ : q < K.length ∧ K.getD q default = s
section
variable {c : Wc} {N : Nat → Obj → Prop} {Ob : World → List Sx → List Sx → Prop} {W W' : World} {P Z : List Sx} {s : Sx} {q sb mb bb : Nat} {v : Rp → Value} {pa : Option Addr} {pl pc K0 F0 k : Nat} {K O F : List Sx} {os : List Nat}
theorem FlI.below {fs ff : Nat} {cs cf : Array Value} (hc : WcOk c) (hO : Obs c fs ff cs cf N Ob) (h : FlI c N Ob W P Z s q sb mb bb v pa pl pc K0 F0 k K O F os) (hb : Below W.heap.size W W') : FlI c N Ob W' P Z s q sb mb bb v pa pl pc K0 F0 k K O F os :=
  ⟨h.wk.below hc hb, hO.keep _ _ _ _ h.ob (Fr.of_below (by rw [hc.Bw]; exact h.wk.low.size) hb), h.df, h.fwd, h.st.below hb, by
    obtain ⟨C, hp⟩ := h.picks
    exact ⟨C, hp.below hb⟩, h.kl, h.fl, h.at_⟩
theorem FlI.stp (h : FlI c N Ob W P Z s q sb mb bb v pa pl pc K0 F0 k K O F os) : StP c q s := by
  have := h.wk.ok q h.at_.1
  rw [h.at_.2] at this
  exact this
theorem FlI.mem (h : FlI c N Ob W P Z s q sb mb bb v pa pl pc K0 F0 k K O F os) : s ∈ K := by
  have h1 := h.at_.2
  rw [List.getD_eq_getElem?_getD, List.getElem?_eq_getElem h.at_.1] at h1
  rw [← h1]
  exact List.getElem_mem h.at_.1
/-- The next move of a copy. -/
theorem FlI.move (hc : WcOk c) (h : FlI c N Ob W P Z s q sb mb bb v pa pl pc K0 F0 k K O F os) (hb : Below W.heap.size W W') {sb' mb' bb' : Nat} {v' : Rp → Value} (hq : QSt W' W.heap.size (c.Q.at bb') sb' mb' v' s) (hk : k < (movesX c.Q.L c.X c.mode s).length) (hK : q ≤ 4500) :
    Calls Tryz.prog 67 #[.pointer (some ⟨sb', 0, none⟩), .agg #[.int .i64 ((movesX c.Q.L c.X c.mode s).getD k 0 / 8), .int .i64 ((movesX c.Q.L c.X c.mode s).getD k 0 % 8 - 1)]] W' (fun e W2 => e = .returned (.bool (!(doX c.X c.mode s ((movesX c.Q.L c.X c.mode s).getD k 0).toNat).fell)) ∧ Below W.heap.size W W2 ∧ ∃ v2, QSt W2 W.heap.size (c.Q.at bb') sb' mb' v2 (doX c.X c.mode s ((movesX c.Q.L c.X c.mode s).getD k 0).toNat)) ∧ ((doX c.X c.mode s ((movesX c.Q.L c.X c.mode s).getD k 0).toNat).fell = false → StP c (q + 1) (doX c.X c.mode s ((movesX c.Q.L c.X c.mode s).getD k 0).toNat)) ∧ (doX c.X c.mode s ((movesX c.Q.L c.X c.mode s).getD k 0).toNat).prints.length ≤ 10000 := by
  have hs := h.stp
  have hmv := getD_mv hk
  have hpr := hs.pr
  obtain ⟨h1, h2, h3, h4⟩ := pmove_any W' W.heap.size (c.Q.at bb') sb' mb' v' s c.ca c.X c.n c.m c.lk c.rg hq hb.size hs.ok hc.cok (hc.prog.below (by have := h.wk.low.trans (hb.mono (by rw [hc.Bw]; exact h.wk.low.size)); rw [hc.Bw] at this; exact this)) (by omega) hs.fell hc.hM hc.nt hs.lk _ hmv
  refine ⟨h1.mono fun e W2 ⟨he, v2, hq2, hm2⟩ => ⟨he, hb.trans (hm2.below hb.size hq.fam.low), v2, hq2⟩, fun hf => ⟨h2, hf, h4, hs.v.move hs.ok hc.cok.n4 hc.fits hmv, ?_⟩, ?_⟩
  · show (doX c.X (c.Q.at bb').K.mode s _).prints.length ≤ _
    omega
  · show (doX c.X (c.Q.at bb').K.mode s _).prints.length ≤ _
    omega
/-- It was come to. -/
theorem FlI.come {fs ff : Nat} {cs cf : Array Value} (hc : WcOk c) (hO : Obs c fs ff cs cf N Ob) (h : FlI c N Ob W P Z s q sb mb bb v pa pl pc K0 F0 k K O F os) (hk : k < (movesX c.Q.L c.X c.mode s).length) {s' : Sx} (hs' : doX c.X c.mode s ((movesX c.Q.L c.X c.mode s).getD k 0).toNat = s') (hf : s'.fell = false) {sb' : Nat} {e : Ending} (hq : ComeQ c W K O os sb' s' e W') :
    e = .returned (.tuple #[]) ∧ ∃ K' O' os', FlI c N Ob W' P Z s q sb mb bb v pa pl pc K0 F0 (k + 1) K' O' F os' := by
  obtain ⟨rfl, hfr, hq⟩ := hq
  refine ⟨rfl, ?_⟩
  have hob := hO.keep _ _ _ _ h.ob hfr
  have hst := Fr.qst h.st hfr (fun r k cs => nw_cells (hc.ty r))
  have hpk : ∃ C, IsP W' C pa pl pc (movesX c.Q.L c.X c.mode s) := by
    obtain ⟨C, hp⟩ := h.picks
    exact ⟨C, hp.is, Fr.own hp.own hfr (fun k cs => nw_cells (by unfold wTy; decide))⟩
  have hkl := h.kl
  have hfl := h.fl
  rcases hq with ⟨hin, hw⟩ | ⟨hnew, hw⟩
  · exact ⟨K, O, os, hw, hob, h.df, h.fwd.next (fun t ht => ht) (fun t ht => ht) (fun hf' => by rw [hs', hf] at hf'; cases hf') (fun _ => by rw [hs']; exact hin), hst, hpk, by omega, by omega, h.at_⟩
  · refine ⟨K ++ [s'], O ++ [s'], os ++ [sb'], hw, hob, h.df.come h.mem (mem_nx.mpr ⟨_, getD_mv hk, hs', hf⟩) hnew, h.fwd.next (fun t ht => List.mem_append_left _ ht) (fun t ht => ht) (fun hf' => by rw [hs', hf] at hf'; cases hf') (fun _ => by rw [hs']; simp), hst, hpk, by rw [List.length_append, List.length_singleton]; omega, by omega, by rw [List.length_append]; have := h.at_.1; omega, ?_⟩
    have h1 := h.at_.1
    rw [show (K ++ [s']).getD q default = K.getD q default by simp [List.getD, List.getElem?_append_left h1]]
    exact h.at_.2
/-- It fell. -/
theorem FlI.fall {fs ff : Nat} {cs cf : Array Value} (hO : Obs c fs ff cs cf N Ob) (h : FlI c N Ob W P Z s q sb mb bb v pa pl pc K0 F0 k K O F os) (hz : s ∈ Z) (hk : k < (movesX c.Q.L c.X c.mode s).length) {s' : Sx} (hs' : doX c.X c.mode s ((movesX c.Q.L c.X c.mode s).getD k 0).toNat = s') (hf : s'.fell = true) (hob : Ob W' Z (F ++ [s'])) (hfr : Fr c.B N W W') :
    FlI c N Ob W' P Z s q sb mb bb v pa pl pc K0 F0 (k + 1) K O (F ++ [s']) os := by
  have hkl := h.kl
  have hfl := h.fl
  refine ⟨h.wk.kept hfr (fun k cs t ht => hO.n1 k cs t (ht.imp id Or.inl)) hO.n2 hO.n3, hob, ?_, h.fwd.next (fun t ht => ht) (fun t ht => List.mem_append_left _ ht) (fun _ => by rw [hs']; simp) (fun hf' => by rw [hs', hf] at hf'; cases hf'), Fr.qst h.st hfr hO.n3, ?_, by omega, by rw [List.length_append, List.length_singleton]; omega, h.at_⟩
  · rw [← hs'] at hf ⊢
    exact h.df.fell hz (getD_mv hk) hf
  · obtain ⟨C, hp⟩ := h.picks
    exact ⟨C, hp.is, Fr.own hp.own hfr (fun k cs => hO.n1 k cs _ (.inr (.inr rfl)))⟩
end

set_option maxRecDepth 100000 in
set_option maxHeartbeats 3200000 in
/-- What a state becomes is handed on. -/
theorem follow_any (c : Wc) (hc : WcOk c) (N : Nat → Obj → Prop) (Ob : World → List Sx → List Sx → Prop) (fs ff : Nat) (cs cf : Array Value) (hO : Obs c fs ff cs cf N Ob) (W : World) (P Z : List Sx) (s : Sx) (q sb mb bb : Nat) (v : Rp → Value) (K O F : List Sx) (os : List Nat) (hwk : WkI c W K O os) (hob : Ob W Z F) (hdf : Df c.Q.L c.X c.mode c.s0 K P Z O F) (hst : QSt W 0 (c.Q.at bb) sb mb v s) (hat : q < K.length ∧ K.getD q default = s) (hz : s ∈ Z) (hK : K.length ≤ 4200) (hZ : Z.length ≤ 4200) (hF : F.length ≤ 16 * 4200) :
    Calls Tryz.prog 74 #[.pointer (some ⟨sb, 0, none⟩), .func (.func 72) #[] #[.pointer (some ⟨c.tb, 0, none⟩), .pointer (some ⟨c.kb, 0, none⟩), .pointer (some ⟨c.ob, 0, none⟩)], .func (.func ff) #[] cf] W fun e W' => e = .returned (.tuple #[]) ∧ ∃ K' O' F' os', WkI c W' K' O' os' ∧ Ob W' Z F' ∧ Df c.Q.L c.X c.mode c.s0 K' P Z O' F' ∧ Fwd c.Q.L c.X c.mode s K' F' (movesX c.Q.L c.X c.mode s).length ∧ K'.length ≤ K.length + 16 ∧ F'.length ≤ F.length + 16 := by
  have hs : StP c q s := by
    have := hwk.ok q hat.1
    rw [hat.2] at this
    exact this
  have HP : Hid (Calls Tryz.prog 50 #[.pointer (some ⟨sb, 0, none⟩)] W fun e w' => ∃ a len cp, e = .returned (.slice a len cp) ∧ Hid (FlI c N Ob w' P Z s q sb mb bb v a len cp K.length F.length 0 K O F os) ∧ (movesX c.Q.L c.X c.mode s).length = len) := by
    refine (picks_any W 0 (c.Q.at bb) sb mb v s c.ca c.X c.n c.m c.lk c.rg hc.n0 hst hc.hM (Nat.zero_le _) hc.nt hs.ok hc.cok (hc.prog.below (by have := hwk.low; rw [hc.Bw] at this; exact this))).mono ?_
    rintro e w' ⟨a, len, cp, he, hp, hb⟩
    refine ⟨a, len, cp, he, ⟨hwk.below hc hb, hO.keep _ _ _ _ hob (Fr.of_below (by rw [hc.Bw]; exact hwk.low.size) hb), hdf, fun j hj => absurd hj (Nat.not_lt_zero _), hst.below hb, ⟨_, hp⟩, by omega, by omega, hat⟩, hp.is⟩
  have hm16 : (movesX c.Q.L c.X c.mode s).length ≤ 16 := by
    have h1 := mvsT_len c.Q.L c.X c.mode s (fun t ht => hs.ok.wlen t (by rw [← hs.ok.ths]; exact ht)) s.ths.length (Nat.le_refl _)
    rw [mvsT_all] at h1
    have h2 := hs.ok.ths
    have h3 := hc.cok.n4
    omega
  have kF := hO.fnF
  have HCC := Hid.out (p := Hid _) hc
  have HOO := Hid.out (p := Hid _) hO
  have HB : Hid (q ≤ 4500 ∧ K.length ≤ 4200 ∧ Z.length ≤ 4200 ∧ F.length ≤ 16 * 4200 ∧ s ∈ Z) := ⟨by have := hat.1; omega, hK, hZ, hF, hz⟩
  have HKO : Hid (∀ W K O F os pa pl pc k, FlI c N Ob W P Z s q sb mb bb v pa pl pc K.length F.length k K O F os → True) := fun _ _ _ _ _ _ _ _ _ _ => trivial
  obtain ⟨ML, hML⟩ : ∃ n, (movesX c.Q.L c.X c.mode s).length = n := ⟨_, rfl⟩
  have HML : Hid ((movesX c.Q.L c.X c.mode s).length = ML) := hML
  rw [hML] at HP hm16 ⊢
  obtain ⟨K0, hK0⟩ : ∃ n, K.length = n := ⟨_, rfl⟩
  obtain ⟨F0, hF0⟩ : ∃ n, F.length = n := ⟨_, rfl⟩
  rw [hK0] at HP HB ⊢
  rw [hF0] at HP HB ⊢
  clear hwk hob hdf hst hat hz hK hZ hF hs hc hO hML HKO hK0 hF0
  go_enter Tryz.func74, Tryz.ntmps74
  go_wp2_with fail
  refine Calls.mono HP.out ?_
  rintro e w1 ⟨pa, pl, pc, rfl, HI, rfl⟩
  clear HP
  go_wp2_with fail
  go_loopw [12] (fun i wr => ∃ (k : Nat) (K O F : List Sx) (os : List Nat), k ≤ ML ∧ i = .int .i64 k ∧ Hid (FlI c N Ob wr P Z s q sb mb bb v pa ML pc K0 F0 k K O F os)) (fun i _ => ML - (intOf i).toNat)
  case atStart => exact ⟨0, K, O, F, os, Nat.zero_le _, rfl, HI⟩
  case round =>
    obtain ⟨k, K, O, F, os, hk, rfl, HF⟩ := hrel
    clear HI
    by_cases hlt : k < ML
    · obtain ⟨C, hp⟩ := HF.out.picks
      obtain ⟨lb, lcp, h1, h2, _, _⟩ := fam_block hp.own (by omega)
      simp only [Value.slice.injEq] at h1
      obtain ⟨rfl, -, -⟩ := h1
      have hkm : k < (movesX c.Q.L c.X c.mode s).length := by rw [HML.out]; exact hlt
      have HKM : Hid (k < (movesX c.Q.L c.X c.mode s).length) := hkm
      obtain ⟨e1, e2⟩ := pickV_at hkm
      have p0 := fam_cell hp.own h2 e1
      have p1 := fam_cell hp.own h2 e2
      obtain ⟨mv, hmv⟩ : ∃ x, (movesX c.Q.L c.X c.mode s).getD k 0 = x := ⟨_, rfl⟩
      have HMV : Hid ((movesX c.Q.L c.X c.mode s).getD k 0 = mv) := hmv
      rw [hmv] at p0 p1
      obtain ⟨x0, hx0⟩ : ∃ x, mv / 8 = x := ⟨_, rfl⟩
      obtain ⟨x1, hx1⟩ : ∃ x, mv % 8 - 1 = x := ⟨_, rfl⟩
      have HX : Hid (mv / 8 = x0 ∧ mv % 8 - 1 = x1) := ⟨hx0, hx1⟩
      rw [hx0] at p0
      rw [hx1] at p1
      obtain ⟨V, hV⟩ : ∃ V, V = wr.alloc (.cells #[.int .i64 x0, .int .i64 x1] 132) := ⟨_, rfl⟩
      have hbV : Below wr.heap.size wr V := by rw [hV]; exact (Below.refl _ _).alloc (Nat.le_refl _) _
      have hVb : V.heap[wr.heap.size]? = some (.cells #[.int .i64 x0, .int .i64 x1] 132) := by rw [hV]; exact heap_alloc_new _ _
      have HFV := Hid.out (p := Hid _) (HF.out.below HCC.out HOO.out hbV)
      have HV : Hid (wr.alloc (.cells #[.int .i64 x0, .int .i64 x1] 132) = V) := hV.symm
      have HCL := Hid.out (p := Hid _) (sclone_any V 0 (c.Q.at bb) sb mb v s c.cf HCC.out.hC HFV.out.st (HFV.out.stp.kok HCC.out (by have := HB.out.1; omega) bb))
      have HVB := Hid.out (p := Hid _) hVb
      clear hp h2 hkm e1 e2 hmv hx0 hx1 hV hbV hVb HF
      go_wp2_with fail
      rw [HV.out]
      refine Calls.mono HCL.out ?_
      rintro e w2 ⟨sb', mb', bb', v', rfl, hq2, hb2⟩
      have pb2 : w2.heap[wr.heap.size]? = some (.cells #[.int .i64 x0, .int .i64 x1] 132) := (hb2.block _ (box_lt HVB.out)).trans HVB.out
      have q0 : w2.cell? ⟨wr.heap.size, 0, none⟩ = some (.int .i64 x0) := box_cell pb2 rfl
      have q1 : w2.cell? ⟨wr.heap.size, 1, none⟩ = some (.int .i64 x1) := box_cell pb2 rfl
      obtain ⟨hdo, hst', hpr'⟩ := HFV.out.move HCC.out hb2 hq2 HKM.out HB.out.1
      obtain ⟨s', hs'⟩ : ∃ x, doX c.X c.mode s mv.toNat = x := ⟨_, rfl⟩
      have HS' : Hid (doX c.X c.mode s ((movesX c.Q.L c.X c.mode s).getD k 0).toNat = s') := by show _ = _; rw [HMV.out]; exact hs'
      rw [HS'.out, HMV.out, HX.out.1, HX.out.2] at hdo
      rw [HS'.out] at hst' hpr'
      have HDO := Hid.out (p := Hid _) hdo
      have HST' := Hid.out (p := Hid _) (And.intro hst' hpr')
      clear HCL hq2 hb2 pb2 hdo hst' hpr' hs' p0 p1 HV HVB
      go_wp2_with fail
      refine Calls.mono HDO.out ?_
      rintro e w3 ⟨rfl, hb3, v3, hq3⟩
      have HF3 := Hid.out (p := Hid _) (HFV.out.below HCC.out HOO.out hb3)
      clear HDO hb3 HFV q0 q1
      cases hf : s'.fell with
      | false =>
        have HCM : Hid (Calls Tryz.prog 72 #[.pointer (some ⟨sb', 0, none⟩), .pointer (some ⟨c.tb, 0, none⟩), .pointer (some ⟨c.kb, 0, none⟩), .pointer (some ⟨c.ob, 0, none⟩)] w3 (fun e W' => e = .returned (.tuple #[]) ∧ ∃ K' O' os', FlI c N Ob W' P Z s q sb mb bb v (some ⟨lb, 0, none⟩) ML pc K0 F0 (k + 1) K' O' F os')) := by
          refine (come_any c HCC.out w3 K O os HF3.out.wk sb' mb' bb' _ v3 s' hq3 ((HST'.out.1 hf).mono ?_) ?_ ?_).mono (fun e W' hcq => HF3.out.come HCC.out HOO.out HKM.out HS'.out hf hcq)
          · exact HF3.out.at_.1
          · have := HF3.out.kl; have := HB.out.2.1; omega
          · have := HF3.out.df.len; omega
        clear hf hq3 HF3 HST' HS' HMV HX
        go_wp2_with fail
        refine Calls.mono HCM.out ?_
        rintro e w4 ⟨rfl, K4, O4, os4, h4⟩
        have H4 := Hid.out (p := Hid _) h4
        clear HCM h4
        go_wp2_with fail
        go_roundw
        case rel => exact ⟨k + 1, K4, O4, F, os4, by omega, by go_num, H4⟩
        case measure => simp [intOf]; omega
      | true =>
        have HCM : Hid (Calls Tryz.prog ff (#[.pointer (some ⟨sb', 0, none⟩)] ++ cf) w3 (fun e W' => e = .returned (.tuple #[]) ∧ FlI c N Ob W' P Z s q sb mb bb v (some ⟨lb, 0, none⟩) ML pc K0 F0 (k + 1) K O (F ++ [s']) os)) := by
          refine (HOO.out.fell w3 Z F sb' mb' bb' v3 s' HF3.out.ob hq3.zero HST'.out.2 ?_ ?_ HF3.out.wk.low).mono (fun e W' hcq => ⟨hcq.1, HF3.out.fall HOO.out HB.out.2.2.2.2 HKM.out HS'.out hf hcq.2.1 hcq.2.2⟩)
          · have := HB.out.2.2.1; omega
          · have := HF3.out.fl; have := HB.out.2.2.2.1; omega
        clear hf hq3 HF3 HST' HS' HMV HX
        go_wp2_with fail
        refine Calls.mono HCM.out ?_
        rintro e w4 ⟨rfl, h4⟩
        have H4 := Hid.out (p := Hid _) h4
        clear HCM h4
        go_wp2_with fail
        go_roundw
        case rel => exact ⟨k + 1, K, O, F ++ [s'], os, by omega, by go_num, H4⟩
        case measure => simp [intOf]; omega
    · obtain rfl : k = ML := by omega
      have HR : Hid (∃ K' O' F' os', WkI c wr K' O' os' ∧ Ob wr Z F' ∧ Df c.Q.L c.X c.mode c.s0 K' P Z O' F' ∧ Fwd c.Q.L c.X c.mode s K' F' k ∧ K'.length ≤ K0 + 16 ∧ F'.length ≤ F0 + 16) := by
        have h := HF.out
        have h1 := h.kl
        have h2 := h.fl
        exact ⟨K, O, F, os, h.wk, h.ob, h.df, h.fwd, by omega, by omega⟩
      clear HF
      go_wp2
      go_end0
      exact ⟨rfl, HR.out⟩
end

section
open Go.RowKit

section
variable {ι : Type} {w w' : World} {vf vf' : ι → Value}
/-- An outcome whose lists lie outside of rows. -/
structure EnO (w : World) (vf : ι → Value) (e : En) : Prop where
  ws : LIo w vf e.wa e.o.ws
  pr : LIo w vf e.pa e.o.pr
  wl : e.o.ws.length ≤ 100000
  pl : e.o.pr.length ≤ 100000
theorem EnO.ok {e : En} (h : EnO w vf e) : EnOk w e := ⟨h.ws.li, h.pr.li, h.wl, h.pl⟩
theorem EnO.moved {e : En} (h : EnO w vf e) (hm : Moved w w' vf vf') : EnO w' vf' e := ⟨h.ws.moved hm, h.pr.moved hm, h.wl, h.pl⟩
/-- Outcomes lie outside of rows, one behind the other. -/
def EIo (w : World) (vf : ι → Value) (a : Option Addr) (es : List En) : Prop := ∀ i, i < es.length → ∃ b o, a = some ⟨b, o, none⟩ ∧ (∀ j, j < 3 → w.cell? ⟨b, o + i * 3 + j, none⟩ = some (enC (es.getD i default) j)) ∧ ∀ q, (vf q).ownBlock ≠ some b
theorem EIo.ein {a : Option Addr} {es : List En} (h : EIo w vf a es) : EIn w a es := fun i hi => by
  obtain ⟨b, o, h1, h2, _⟩ := h i hi
  exact ⟨b, o, h1, h2 0 (by omega), h2 1 (by omega), h2 2 (by omega)⟩
theorem EIo.moved {a : Option Addr} {es : List En} (h : EIo w vf a es) (hm : Moved w w' vf vf') : EIo w' vf' a es := fun i hi => by
  obtain ⟨b, o, h1, h2, h3⟩ := h i hi
  exact ⟨b, o, h1, fun j hj => (hm.cell (a := ⟨b, o + i * 3 + j, none⟩) (lt_of_cell (h2 j hj)) h3).trans (h2 j hj), hm.out (lt_of_cell (h2 0 (by omega))) h3⟩
theorem IsO.eio {B : Nat} {a : Option Addr} {len c : Nat} {es : List En} (h : IsO w B a len c es) (ho : ∀ g, (Value.slice a len c).ownBlock = some g → ∀ q, (vf q).ownBlock ≠ some g) : EIo w vf a es := fun i hi => by
  obtain ⟨g, cap, h1, h2, _, _⟩ := fam_block h.own (by have := h.is; omega)
  simp only [Value.slice.injEq] at h1
  refine ⟨g, 0, h1.1, fun j hj => ?_, ho g h2⟩
  have := fam_cell h.own h2 (i := i * 3 + j) (u := enC (es.getD i default) j) (rows3_get hi hj)
  rw [show 0 + i * 3 + j = i * 3 + j by omega]
  exact this
end
theorem insO_len {o : Oc} : ∀ l : List Oc, (insO o l).length ≤ l.length + 1
  | [] => by simp [insO]
  | a :: l => by
    unfold insO
    split
    · simp
    · split
      · have := insO_len (o := o) l
        simp only [List.length_cons]
        omega
      · simp
/-- How many numbers a state is. -/
theorem nums_len {n : Nat} {L : Nat → Nat} {m lk rg : Nat} {mode : Int} {s : Sx} (ho : SOk n L m lk rg mode s) (hN : n ≤ 4) (hm64 : m ≤ 64) (hlk4 : lk ≤ 4) (hrg : rg ≤ 200) (hpl : s.prints.length ≤ 20000) : (numsX s).length ≤ 100000 := by
  have h1 := numA_len s (rg := rg) (fun t ht => ho.regs t (by rw [← ho.ths]; exact ht)) (fun t ht => ho.wlen t (by rw [← ho.ths]; exact ht)) s.ths.length (Nat.le_refl _)
  have h2 : (11 + rg) * s.ths.length ≤ 211 * 4 := Nat.mul_le_mul (by omega) (by rw [ho.ths]; exact hN)
  have h3 := ho.words
  have h4 := ho.own
  show (s.ths.flatMap numT ++ s.words ++ s.own ++ s.prints).length ≤ 100000
  rw [← numA_all]
  simp only [List.length_append]
  omega

/-- A program, and the state ahead of its first step. -/
structure Bc where
  P : Pg
  A : Nat → Option Addr
  L : Nat → Nat
  C : Nat → Nat
  X : Nat → Nat → Nat → Int
  m : Nat
  lk : Nat
  rg : Nat
  s0 : Sx
structure BcOk (c : Bc) (w : World) : Prop where
  n0 : 0 < c.P.n
  cok : COk c.P.n c.L c.X c.m c.lk c.rg
  prog : PIn w c.P.ca c.P.n c.A c.L c.C c.X
  mode : 0 ≤ c.P.mode
abbrev Bc.nx (c : Bc) : Sx → List Sx := nxX c.L c.X c.P.mode
abbrev Bc.outs (c : Bc) : Sx → List Oc := outsX c.L c.X c.P.mode
/-- What holds of a state that was come to as the k-th one. -/
structure StOk (c : Bc) (k : Nat) (s : Sx) : Prop where
  ok : SOk c.P.n c.L c.m c.lk c.rg c.P.mode s
  fell : s.fell = false
  pr : s.prints.length ≤ 2 * k
/-- What holds between two steps: i states were gone through, there are at most N outcomes. -/
structure SpO (c : Bc) (w0 W : World) (pb : Nat) (v : Sr → Value) (d : Sd) (ea : Option Addr) (ec : Nat) (es : List En) (i N : Nat) : Prop where
  sp : SpIn W w0.heap.size c.P pb v d
  ends : d.ends = .slice ea es.length ec
  ein : EIo W v ea es
  eok : ∀ x, x ∈ es → EnO W v x
  sorted : SortedO (es.map En.o)
  wk : Wk c.nx c.outs c.s0 d.ss (fun s => s ∈ d.ss.take i) (fun o => o ∈ es.map En.o)
  ok : ∀ k, k < d.ss.length → StOk c k (d.ss.getD k default)
  cnt : es.length ≤ N
  full : d.full = decide (4000 < d.ss.length)
  few : d.ss.length ≤ 4001
  low : Below w0.heap.size w0 W
  gone : i ≤ d.ss.length
section
variable {c : Bc} {w0 W w' : World} {pb : Nat} {v : Sr → Value} {d : Sd} {ea : Option Addr} {ec : Nat} {es : List En} {i N : Nat}
theorem SpO.below (h : SpO c w0 W pb v d ea ec es i N) (hb : Below W.heap.size W w') : SpO c w0 w' pb v d ea ec es i N :=
  ⟨h.sp.below hb, h.ends, h.ein.moved (Moved.of_below hb), fun x hx => (h.eok x hx).moved (Moved.of_below hb), h.sorted, h.wk, h.ok, h.cnt, h.full, h.few, h.low.trans (hb.mono h.low.size), h.gone⟩
theorem SpO.more (h : SpO c w0 W pb v d ea ec es i N) {N' : Nat} (hN : N ≤ N') : SpO c w0 W pb v d ea ec es i N' :=
  ⟨h.sp, h.ends, h.ein, h.eok, h.sorted, h.wk, h.ok, Nat.le_trans h.cnt hN, h.full, h.few, h.low, h.gone⟩
theorem SpO.mem (_h : SpO c w0 W pb v d ea ec es i N) {k : Nat} (hk : k < d.ss.length) : d.ss.getD k default ∈ d.ss := by
  rw [List.getD_eq_getElem?_getD, List.getElem?_eq_getElem hk]; exact List.getElem_mem hk
/-- What Put leaves. -/
theorem SpO.put_end (h : SpO c w0 W pb v d ea ec es i N) {e : En} {en : Ending} (hq : PutQ W pb e es en w') (he : EnO W v e) {x : Sx} (hx : x ∈ d.ss) (ho : e.o ∈ c.outs x) :
    en = .returned (.tuple #[]) ∧ Moved W w' v v ∧ ∃ d' ea' ec' es', SpO c w0 w' pb v d' ea' ec' es' i (N + 1) ∧ d'.ss = d.ss ∧ d'.sbs = d.sbs ∧ ∀ y, y ∈ es'.map En.o ↔ y = e.o ∨ y ∈ es.map En.o := by
  obtain ⟨rfl, hq⟩ := hq
  refine ⟨rfl, ?_⟩
  rcases hq with ⟨hb, hins⟩ | ⟨w2, a, len, cc, es2, rfl, hb, hI, hm, hall⟩
  · refine ⟨Moved.of_below hb, d, ea, ec, es, (h.below hb).more (by omega), rfl, rfl, fun y => ?_⟩
    rw [← mem_insO, hins]
  · have hM : Moved W (w2.setCell ⟨pb, 4, none⟩ (.slice a len cc)) v v := (Moved.of_below hb).put (r := .box) h.sp.bblk 4 _
    have hM2 : Moved w2 (w2.setCell ⟨pb, 4, none⟩ (.slice a len cc)) v v := (Moved.refl _ _).put (r := .box) h.sp.bblk 4 _
    have hmem : ∀ y, y ∈ es2.map En.o ↔ y = e.o ∨ y ∈ es.map En.o := fun y => by rw [hm]; exact mem_insO
    refine ⟨hM, ⟨d.sbs, d.ss, d.ks, .slice a len cc, d.full⟩, a, cc, es2, ⟨⟨(h.sp.fam.below hb).put (r := .box) h.sp.bblk 4 _ (fun q => by cases q <;> rfl) rfl (fun q hq => by cases q <;> first | rfl | exact absurd rfl hq), h.sp.box, h.sp.len, h.sp.klen, fun k hk => ?_, fun k hk => ?_⟩, ?_, ?_, fun y hy => ?_, ?_, ?_, h.ok, ?_, h.full, h.few, ?_, h.gone⟩, rfl, rfl, hmem⟩
    · obtain ⟨B', v', h1, h2⟩ := h.sp.states k hk
      obtain ⟨h3, h4⟩ := h1.moved h2 hM
      exact ⟨B', v', h3, h4⟩
    · obtain ⟨B', h1, h2⟩ := h.sp.keys k hk
      obtain ⟨h3, h4⟩ := h1.moved h2 hM
      exact ⟨B', h3, h4⟩
    · show Value.slice a len cc = .slice a es2.length cc
      rw [hI.is]
    · refine (IsO.eio hI (fun g hg q e => ?_)).moved hM2
      have h1 := (hI.own.lt g hg).1
      have h2 := h.sp.fam.lt e
      omega
    · rcases hall y hy with rfl | hy
      · exact he.moved hM
      · exact (h.eok y hy).moved hM
    · rw [hm]; exact sorted_insO h.sorted
    · exact h.wk.out hx ho hmem
    · have h1 := insO_len (o := e.o) (es.map En.o)
      rw [← hm, List.length_map, List.length_map] at h1
      have h2 := h.cnt
      omega
    · exact h.low.trans (hM.below h.low.size h.sp.fam.low)
/-- What put leaves. -/
theorem SpO.put_state (h : SpO c w0 W pb v d ea ec es i N) {xb : Nat} {sx : Sx} {en : Ending} (hq : SputQ W w0.heap.size c.P pb v d xb sx en w') (hnf : d.full = false) (hsx : StOk c d.ss.length sx) {x : Sx} (hx : x ∈ d.ss) (ho : sx ∈ c.nx x) :
    en = .returned (.tuple #[]) ∧ ∃ v' d', SpO c w0 w' pb v' d' ea ec es i N ∧ Moved W w' v v' ∧ sx ∈ d'.ss ∧ (∀ t, t ∈ d.ss → t ∈ d'.ss) ∧ d.ss.length ≤ d'.ss.length ∧ ∀ k, k < d.ss.length → d'.ss.getD k default = d.ss.getD k default ∧ d'.sbs.getD k 0 = d.sbs.getD k 0 := by
  obtain ⟨rfl, hq⟩ := hq
  refine ⟨rfl, ?_⟩
  rcases hq with ⟨⟨k, hk, hkk⟩, hb⟩ | ⟨hno, v', ka, kc, hS, hM⟩
  · refine ⟨v, d, h.below hb, Moved.of_below hb, ?_, fun t ht => ht, Nat.le_refl _, fun k _ => ⟨rfl, rfl⟩⟩
    have e := nums_inj (h.ok k hk).ok hsx.ok (by rw [(h.ok k hk).fell, hsx.fell]) hkk
    rw [← e]
    exact h.mem hk
  · have hss : (d.push xb sx ka kc).ss = d.ss ++ [sx] := rfl
    have hnew : sx ∉ d.ss := fun hm => by
      obtain ⟨k, hk, e⟩ := List.getElem_of_mem hm
      refine hno k hk ?_
      unfold keyL
      rw [List.getD_eq_getElem?_getD, List.getElem?_eq_getElem hk]
      exact congrArg numsX e
    have hlen : d.ss.length ≤ 4000 := by
      have := h.full
      rw [hnf] at this
      have := of_decide_eq_false this.symm
      omega
    refine ⟨v', d.push xb sx ka kc, ⟨hS, h.ends, h.ein.moved hM, fun y hy => (h.eok y hy).moved hM, h.sorted, ?_, fun k hk => ?_, h.cnt, ?_, ?_, h.low.trans (hM.below h.low.size h.sp.fam.low), ?_⟩, hM, ?_, fun t ht => ?_, ?_, fun k hk => ⟨push_ss hk, ?_⟩⟩
    · rw [hss]
      refine (h.wk.push hx ho hnew).same (fun s => ?_) (fun _ => Iff.rfl)
      rw [List.take_append_of_le_length h.gone]
    · rw [push_len] at hk
      rcases Nat.lt_or_ge k d.ss.length with h1 | h1
      · rw [push_ss h1]; exact h.ok k h1
      · obtain rfl : k = d.ss.length := by omega
        rw [push_new]
        exact hsx
    · rw [push_len]
      show (d.full || _) = _
      rw [hnf, Bool.false_or]
    · rw [push_len]; omega
    · rw [push_len]; have := h.gone; omega
    · rw [hss]; simp
    · rw [hss]; exact List.mem_append_left _ ht
    · rw [push_len]; omega
    · show (d.sbs ++ [xb]).getD k 0 = _
      simp [List.getD, List.getElem?_append_left (show k < d.sbs.length by rw [h.sp.len]; exact hk)]
/-- put, while there are not too many. -/
theorem SpO.put_any (h : SpO c w0 W pb v d ea ec es i N) (hc : BcOk c w0) {Bx xb : Nat} {vx : Rl → Value} {sx : Sx} (hD : DSt W Bx c.P xb vx sx) (hxo : ∀ r g, (vx r).ownBlock = some g → ∀ q, (v q).ownBlock ≠ some g) (hnf : d.full = false) (hsx : StOk c d.ss.length sx) {x : Sx} (hx : x ∈ d.ss) (ho : sx ∈ c.nx x) :
    Calls Tryz.prog 60 #[.pointer (some ⟨pb, 0, none⟩), .pointer (some ⟨xb, 0, none⟩)] W fun e w' => e = .returned (.tuple #[]) ∧ ∃ v' d', SpO c w0 w' pb v' d' ea ec es i N ∧ Moved W w' v v' ∧ sx ∈ d'.ss ∧ (∀ t, t ∈ d.ss → t ∈ d'.ss) ∧ d.ss.length ≤ d'.ss.length ∧ ∀ k, k < d.ss.length → d'.ss.getD k default = d.ss.getD k default ∧ d'.sbs.getD k 0 = d.sbs.getD k 0 := by
  have hf := h.few
  refine Calls.mono (sput_any W w0.heap.size c.P pb v d c.L c.m c.lk c.rg Bx xb vx sx h.sp hD hxo hsx.ok hc.n0 hc.cok.n4 hc.cok.m64 hc.cok.lk4 hc.cok.rg2 (by have := hsx.pr; omega) (by omega) (fun k hk => ?_)) (fun e w' hq => h.put_state hq hnf hsx hx ho)
  have := h.ok k hk
  exact nums_len this.ok hc.cok.n4 hc.cok.m64 hc.cok.lk4 hc.cok.rg2 (by have := this.pr; omega)
theorem SpO.Put_any (h : SpO c w0 W pb v d ea ec es i N) {e : En} (he : EnO W v e) {x : Sx} (hx : x ∈ d.ss) (ho : e.o ∈ c.outs x) (hi4 : i ≤ 4000) (hN : N ≤ 16 * i + 16) :
    Calls Tryz.prog 63 #[.pointer (some ⟨pb, 0, none⟩), enV e] W fun en w' => en = .returned (.tuple #[]) ∧ Moved W w' v v ∧ ∃ d' ea' ec' es', SpO c w0 w' pb v d' ea' ec' es' i (N + 1) ∧ d'.ss = d.ss ∧ d'.sbs = d.sbs ∧ ∀ y, y ∈ es'.map En.o ↔ y = e.o ∨ y ∈ es.map En.o := by
  have c4 := h.sp.c4
  rw [h.ends] at c4
  exact Calls.mono (oput_any W pb ea ec es e c4 (h.sp.fam.frozen h.sp.bblk 4) h.ein.ein (fun x hx => (h.eok x hx).ok) he.ok h.sorted (by have := h.cnt; omega)) (fun en w' hq => h.put_end hq he hx ho)
/-- One state has been gone through. -/
theorem SpO.goneOn (h : SpO c w0 W pb v d ea ec es i N) (hi : i < d.ss.length) (hn : ∀ t, t ∈ c.nx (d.ss.getD i default) → t ∈ d.ss) (ho : ∀ o, o ∈ c.outs (d.ss.getD i default) → o ∈ es.map En.o) : SpO c w0 W pb v d ea ec es (i + 1) N :=
  ⟨h.sp, h.ends, h.ein, h.eok, h.sorted, h.wk.gone (h.mem hi) hn ho (fun s hs => by
    rw [List.take_add_one, List.getElem?_eq_getElem hi] at hs
    rcases List.mem_append.mp hs with hs | hs
    · exact Or.inr hs
    · refine Or.inl ?_
      rw [List.getD_eq_getElem?_getD, List.getElem?_eq_getElem hi]
      exact List.mem_singleton.mp hs), h.ok, h.cnt, h.full, h.few, h.low, hi⟩
theorem SpO.start (hS : SpIn W w0.heap.size c.P pb v d0) (hb : Below w0.heap.size w0 W) (hsx : StOk c 0 c.s0) {xb : Nat} {en : Ending} (hq : SputQ W w0.heap.size c.P pb v d0 xb c.s0 en w') : en = .returned (.tuple #[]) ∧ ∃ v' d', SpO c w0 w' pb v' d' none 0 [] 0 0 := by
  obtain ⟨rfl, hq⟩ := hq
  refine ⟨rfl, ?_⟩
  rcases hq with ⟨⟨k, hk, _⟩, _⟩ | ⟨_, v', ka, kc, hS', hM⟩
  · exact absurd hk (Nat.not_lt_zero _)
  · refine ⟨v', d0.push xb c.s0 ka kc, hS', rfl, fun i hi => absurd hi (Nat.not_lt_zero _), fun x hx => (by cases hx), List.Pairwise.nil, ?_, fun k hk => ?_, Nat.le_refl _, rfl, by rw [push_len]; decide, hb.trans (hM.below hb.size hS.fam.low), Nat.zero_le _⟩
    · exact Wk.begin.same (fun s => by simp) (fun o => by simp)
    · rw [push_len] at hk
      obtain rfl : k = 0 := by have : d0.ss.length = 0 := rfl; omega
      exact hsx
/-- What is told at the end. -/
theorem SpO.told (h : SpO c w0 W pb v d ea ec es i N) (hi : d.full = false → i = d.ss.length) : Told c.nx c.outs c.s0 4000 d.full (es.map En.o) ∧ (d.full = false → ∀ s, s ∈ d.ss ↔ Rch c.nx c.s0 s) := by
  cases hf : d.full with
  | true =>
    have := h.full
    rw [hf] at this
    exact ⟨h.wk.full _ (of_decide_eq_true this.symm), fun h => by cases h⟩
  | false =>
    have h1 := h.full
    rw [hf] at h1
    have h2 := of_decide_eq_false h1.symm
    have hP : ∀ s, s ∈ d.ss → s ∈ d.ss.take i := fun s hs => by rw [hi hf, List.take_length]; exact hs
    exact ⟨h.wk.told hP h.sorted (fun o => Iff.rfl) (by omega), fun _ => (h.wk.whole hP).1⟩
theorem SpO.stB (h : SpO c w0 W pb v d ea ec es i N) (hn : 0 < d.ss.length) : ∃ hb hc, v .st = .slice (some ⟨hb, 0, none⟩) d.ss.length hc ∧ (v .st).ownBlock = some hb := by
  obtain ⟨g, c, h1, h2, _, _⟩ := fam_block (h.sp.fam.own .st) (by exact hn)
  exact ⟨g, c, h1, h2⟩
theorem SpO.stC (h : SpO c w0 W pb v d ea ec es i N) {hb k : Nat} (e : (v .st).ownBlock = some hb) (hk : k < d.ss.length) : W.cell? ⟨hb, k, none⟩ = some (.pointer (some ⟨d.sbs.getD k 0, 0, none⟩)) := by
  refine h.sp.fam.cell e ?_
  show (d.sbs.map fun b => Value.pointer (some ⟨b, 0, none⟩))[k]? = _
  have hk' : k < d.sbs.length := by rw [h.sp.len]; exact hk
  rw [List.getElem?_map, List.getElem?_eq_getElem hk', List.getD_eq_getElem?_getD, List.getElem?_eq_getElem hk']
  rfl
end
/-- A state's words and prints as an outcome's. -/
theorem dst_eno {ι : Type} {W : World} {vf : ι → Value} {B : Nat} {P : Pg} {xb : Nat} {vx : Rl → Value} {s : Sx} (hD : DSt W B P xb vx s) (ho : ∀ r g, (vx r).ownBlock = some g → ∀ q, (vf q).ownBlock ≠ some g) (st : Int) (hw : s.words.length ≤ 100000) (hp : s.prints.length ≤ 100000) :
    ∃ wa wc pa pc, vx .words = .slice wa s.words.length wc ∧ vx .prints = .slice pa s.prints.length pc ∧ EnO W vf ⟨⟨st, s.words, s.prints⟩, wa, wc, pa, pc⟩ ∧ EnO W vf ⟨⟨st, [], s.prints⟩, none, 0, pa, pc⟩ := by
  obtain ⟨wa, wc, h1⟩ := hD.wordsV
  obtain ⟨pa, pc, h2⟩ := hD.printsV
  have lw : LIo W vf wa s.words := fun i hi => by
    obtain ⟨g, c, e1, e2, _⟩ := hD.wordsB (by omega)
    rw [h1] at e1
    simp only [Value.slice.injEq] at e1
    exact ⟨g, 0, e1.1, by simpa using hD.word e2 hi, ho _ g e2⟩
  have lp : LIo W vf pa s.prints := fun i hi => by
    obtain ⟨g, c, e1, e2, _, _⟩ := fam_block (hD.fam.own .prints) (by show 0 < s.prints.length; omega)
    rw [h2] at e1
    simp only [Value.slice.injEq] at e1
    exact ⟨g, 0, e1.1, by simpa using hD.fam.cell e2 (intsV_at hi), ho _ g e2⟩
  exact ⟨wa, wc, pa, pc, h1, h2, ⟨lw, lp, hw, hp⟩, ⟨fun i hi => absurd hi (Nat.not_lt_zero _), lp, Nat.zero_le _, hp⟩⟩
end

end Go.Proofs.YtipdnfpomdcenabGreatDoor
