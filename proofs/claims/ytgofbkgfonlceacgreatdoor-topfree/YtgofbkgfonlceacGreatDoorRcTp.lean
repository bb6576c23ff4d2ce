/-
  Which words can be touched next, by the program.
-/
import Derived.Test.YtgofbkgfonlceacGreatDoorRcP
import Derived.Test.YtgofbkgfonlceacGreatDoorPPicks
import Derived.Test.YtgofbkgfonlceacGreatDoorPTouch
import Derived.Test.YtgofbkgfonlceacGreatDoorRMay
import Derived.Test.YtgofbkgfonlceacGreatDoorPNew2
import Derived.BigRegion
namespace Go.Proofs.YtgofbkgfonlceacGreatDoor
open Go.RowKit

theorem flatN_at {d : Nat} : ∀ {l : List (List Int)} {i j : Nat}, (∀ x, x ∈ l → x.length = d) → i < l.length → j < d → (intsV l.flatten)[i * d + j]? = some (.int .i64 ((l.getD i []).getD j 0))
  | [], i, j, _, h, _ => absurd h (Nat.not_lt_zero _)
  | x :: l, 0, j, h5, _, hj => by
    have hx := h5 x (by simp)
    have e : intsV (x :: l).flatten = intsV x ++ intsV l.flatten := by simp [intsV]
    have hl : (intsV x).length = x.length := by simp [intsV]
    rw [e, Nat.zero_mul, Nat.zero_add, List.getElem?_append_left (by omega)]
    exact intsV_at (by omega)
  | x :: l, i + 1, j, h5, hi, hj => by
    have ih := flatN_at (l := l) (i := i) (j := j) (fun y hy => h5 y (by simp [hy])) (by simpa using hi) hj
    have hx := h5 x (by simp)
    have e : intsV (x :: l).flatten = intsV x ++ intsV l.flatten := by simp [intsV]
    have hl : (intsV x).length = x.length := by simp [intsV]
    rw [e, List.getElem?_append_right (by rw [hl, hx, Nat.succ_mul]; omega), hl, hx, Nat.succ_mul, show i * d + d + j - d = i * d + j by omega]
    exact ih
section
variable (L : Nat → Nat) (X : Nat → Nat → Nat → Int)
/-- What is told of a thread that touches a word next: its number, where it stands, its order, the word. -/
def touR (s : Sx) (t : Nat) : List (List Int) := match okT L X s t with
  | some (x, _) => [[(t : Int), ((thOf s t).pc : Int), opT X s t 0, x]]
  | none => []
def touL (s : Sx) (k : Nat) : List (List Int) := (List.range k).flatMap fun t => touR L X s t
end
section
variable {L : Nat → Nat} {X : Nat → Nat → Nat → Int} {s : Sx}
theorem touL_next (k : Nat) : touL L X s (k + 1) = touL L X s k ++ touR L X s k := by
  unfold touL
  rw [List.range_succ, List.flatMap_append]
  simp
theorem touR_len (t : Nat) : (touR L X s t).length ≤ 1 := by
  unfold touR; split <;> simp
theorem touL_len (k : Nat) : (touL L X s k).length ≤ k := by
  induction k with
  | zero => simp [touL]
  | succ k ih =>
    rw [touL_next, List.length_append]
    have := touR_len (L := L) (X := X) (s := s) k
    omega
end
/-- A list of rows of four numbers that is being made. -/
structure IsU (w : World) (B : Nat) (a : Option Addr) (len c : Nat) (l : List (List Int)) : Prop where
  is : l.length = len
  four : ∀ x, x ∈ l → x.length = 4
  own : w.ownsRow B 94 4 (.slice a len c) len (intsV l.flatten)
theorem IsU.nil (w : World) (B : Nat) : IsU w B none 0 0 [] := ⟨rfl, fun x hx => (by cases hx), World.ownsRow_nil _ _ _ _⟩
theorem IsU.below {w w1 : World} {B : Nat} {a : Option Addr} {len c : Nat} {xs : List (List Int)} (h : IsU w B a len c xs) (hb : Below w.heap.size w w1) : IsU w1 B a len c xs := ⟨h.is, h.four, fam_keeps h.own (fun g hg => hb.block g (h.own.lt g hg).2)⟩
theorem infoTouch : (Tryz.prog.info? 94).map (fun i => (i.zero, i.size, i.bytes)) = some (some (.agg #[.int .i64 0, .int .i64 0, .int .i64 0, .int .i64 0]), 4, 32) := by kernel_rfl
theorem IsU.push {w0 w W : World} {B : Nat} {a : Option Addr} {len c : Nat} {l : List (List Int)} (h : IsU w B a len c l) (hb : Below w.heap.size w W) (hB : B ≤ w.heap.size) (hlen : len ≤ 100000) (x0 x1 x2 x3 : Int) (h0 : Below B w0 W) :
    ∃ g cap w3, (AppS #[56, 56] 56 #[.slice a len c, .slice (some ⟨W.heap.size, 0, none⟩) 1 1]).run Tryz.prog (W.alloc (.cells #[.int .i64 x0, .int .i64 x1, .int .i64 x2, .int .i64 x3] 94)) = .ok (.slice (some ⟨g, 0, none⟩) (len + 1) cap) w3 ∧ Hid (IsU w3 B (some ⟨g, 0, none⟩) (len + 1) cap (l ++ [[x0, x1, x2, x3]]) ∧ Below B w0 w3) := by
  obtain ⟨g, cap, w3, r1, r2, r3, _⟩ := app_row (T := 56) Tryz.underlying56 infoTouch rfl (by omega) h.own hb hB 1 #[.int .i64 x0, .int .i64 x1, .int .i64 x2, .int .i64 x3] rfl (by simp [Value.oneCell']) (by omega) (by omega) (by omega)
  have hBW := Nat.le_trans hB hb.size
  have e : intsV l.flatten ++ #[Value.int .i64 x0, .int .i64 x1, .int .i64 x2, .int .i64 x3].toList = intsV (l ++ [[x0, x1, x2, x3]]).flatten := by simp [intsV]
  exact ⟨g, cap, w3, r1, ⟨by simp [h.is], fun x hx => by
    rcases List.mem_append.mp hx with hx | hx
    · exact h.four x hx
    · rw [List.mem_singleton.mp hx]; rfl, by rw [← e]; exact r2⟩, (h0.alloc hBW _).grown r3 (by simp; omega) (fun k hk => (h.own.lt k hk).1)⟩
set_option maxRecDepth 100000 in
set_option maxHeartbeats 3200000 in
theorem wordOf_none (w : World) (ra : Option Addr) (rl rc : Nat) (op a b c : Int) (h8 : op ≠ 8) (h9 : op ≠ 9) (h10 : op ≠ 10) (h11 : op ≠ 11) (h13 : op ≠ 13) :
    Calls Tryz.prog 46 #[ints4 op a b c, .slice ra rl rc] w fun e w' => e = .returned (.tuple #[.int .i64 0, .bool false]) ∧ Below w.heap.size w w' := by
  have fin : ∀ o, Below w.heap.size w (w.alloc o) := fun o => (Below.refl _ _).alloc (Nat.le_refl _) _
  go_enter Tryz.func46, Tryz.ntmps46
  go_wp2
  go_ret2
  exact ⟨rfl, fin _⟩
theorem wordOf_ok (W : World) (B : Nat) (Q : Cd) (sb mb : Nat) (v : Rp → Value) (s : Sx) (X : Nat → Nat → Nat → Int) (n m lk rg t rb rc : Nat) (hs : QSt W B Q sb mb v s) (ho : SOk n Q.L m lk rg Q.K.mode s) (hc : COk n Q.L X m lk rg) (ht : t < n) (hab : ableT Q.L X s t = true) (hrb : (v (.regs t)).ownBlock = some rb) :
    Calls Tryz.prog 46 #[ints4 (opT X s t 0) (opT X s t 1) (opT X s t 2) (opT X s t 3), .slice (some ⟨rb, 0, none⟩) rg rc] W fun e w' => ∃ (x : Int) (is : Bool), e = .returned (.tuple #[.int .i64 x, .bool is]) ∧ Hid ((is = false → twX X s t = none) ∧ (is = true → ∃ p, twX X s t = some (x, p)) ∧ Below W.heap.size W w') := by
  have hord := ok_lt hc ht hab
  have hrl := ho.regs t ht
  obtain ⟨op, e0⟩ : ∃ x, opT X s t 0 = x := ⟨_, rfl⟩
  obtain ⟨a, e1⟩ : ∃ x, opT X s t 1 = x := ⟨_, rfl⟩
  obtain ⟨b, e2⟩ : ∃ x, opT X s t 2 = x := ⟨_, rfl⟩
  obtain ⟨c, e3⟩ : ∃ x, opT X s t 3 = x := ⟨_, rfl⟩
  have htw := tw_word e0 e1 e2 e3
  rw [e0, e1, e2, e3] at hord ⊢
  have hreg : ∀ r : Int, 0 ≤ r → r < (rg : Int) → W.cell? ⟨rb, r.toNat, none⟩ = some (.int .i64 (getR s t r)) := fun r h0 h1 => by
    obtain ⟨k, rfl⟩ : ∃ k : Nat, r = k := ⟨r.toNat, by omega⟩
    exact hs.reg hrb (r := k) (by omega)
  by_cases hop : op = 8 ∨ op = 9 ∨ op = 10 ∨ op = 11 ∨ op = 13
  · refine Calls.mono (wordOf_any W rb rg rc op a b c (fun r => getR s t r) hop (fun h => ?_) (fun h => ?_) hc.rg2) fun e w' ⟨h1, h2⟩ => ⟨_, true, h1, (fun e => by cases e), (fun _ => ?_), h2⟩
    · rw [h] at hord
      have := (ok_rr (Or.inr (Or.inl rfl)) hord).2
      exact ⟨this.1, this.2, hreg b this.1 this.2⟩
    · rw [h] at hord
      have := (ok_rr (Or.inr (Or.inr rfl)) hord).1
      exact ⟨this.1, this.2, hreg a this.1 this.2⟩
    · rw [htw]
      rcases hop with rfl | rfl | rfl | rfl | rfl
      · exact ⟨false, rfl⟩
      · exact ⟨true, rfl⟩
      · exact ⟨false, rfl⟩
      · exact ⟨true, rfl⟩
      · exact ⟨false, rfl⟩
  · have h8 : op ≠ 8 := by omega
    have h9 : op ≠ 9 := by omega
    have h10 : op ≠ 10 := by omega
    have h11 : op ≠ 11 := by omega
    have h13 : op ≠ 13 := by omega
    exact Calls.mono (wordOf_none W (some ⟨rb, 0, none⟩) rg rc op a b c h8 h9 h10 h11 h13) fun e w' ⟨h1, h2⟩ => ⟨0, false, h1, (fun _ => by rw [htw, if_neg h8, if_neg h9, if_neg h10, if_neg h11, if_neg h13]), (fun e => by cases e), h2⟩
attribute [local go_sem ↓] appS_eq
set_option maxRecDepth 100000 in
set_option maxHeartbeats 6400000 in
theorem tous_any (w : World) (B : Nat) (Q : Cd) (sb mb : Nat) (v : Rp → Value) (s : Sx) (ca : Option Addr) (X : Nat → Nat → Nat → Int) (n m lk rg : Nat) (h0 : 0 < n) (hs : QSt w B Q sb mb v s) (hM : MLaw Q.K) (hB : B ≤ w.heap.size) (hnt : Q.nt = n) (ho : SOk n Q.L m lk rg Q.K.mode s) (hc : COk n Q.L X m lk rg) (hp : PIn w ca n Q.A Q.L Q.C X) :
    Calls Tryz.prog 18 #[.pointer (some ⟨sb, 0, none⟩)] w fun e w' => ∃ a len c, e = .returned (.slice a len c) ∧ IsU w' w.heap.size a len c (touL Q.L X s n) ∧ Below w.heap.size w w' := by
  have hl := ho.ths
  have hN := hc.n4
  obtain ⟨tb, tc, hth, htb, _⟩ := hs.blk .thr (by show 0 < s.ths.length; omega)
  have c1 := hs.c1
  rw [hth] at c1
  change w.cell? ⟨sb, 1, none⟩ = some (.slice (some ⟨tb, 0, none⟩) s.ths.length tc) at c1
  rw [hl] at c1
  have c0 := hs.c0
  go_enter Tryz.func18, Tryz.ntmps18
  go_wp2_with fail
  go_loopw [3, 14] (fun l i wr => ∃ (j : Nat) (a : Option Addr) (len c : Nat), j ≤ n ∧ i = .int .i64 j ∧ l = .slice a len c ∧ Hid (IsU wr w.heap.size a len c (touL Q.L X s j)) ∧ Below w.heap.size w wr) (fun _ i _ => n - (intOf i).toNat)
  case atStart => exact ⟨0, none, 0, 0, Nat.zero_le _, rfl, rfl, IsU.nil _ _, Below.refl _ _⟩
  case round =>
    obtain ⟨j, a, len, c, hj, rfl, rfl, HI, hbr⟩ := hrel
    by_cases hlt : j < n
    · have HAB := Hid.out (p := Hid _) (sable_any wr B Q sb mb v s ca X n m lk rg j hlt (hs.below hbr) hM (Nat.le_trans hB hbr.size) hnt ho hc (hp.below hbr))
      have hlen : len ≤ 4 := by have h1 := HI.out.is; have h2 := touL_len (L := Q.L) (X := X) (s := s) j; omega
      cases hab : ableT Q.L X s j with
      | false =>
        rw [hab] at HAB
        have HN : Hid (touL Q.L X s (j + 1) = touL Q.L X s j) := by
          show _ = _
          rw [touL_next]
          unfold touR
          rw [okT_no hab, List.append_nil]
        clear hs hp ho hc hM hab
        go_wp2_with fail
        refine Calls.mono HAB.out ?_
        rintro e w1 ⟨rfl, hb1⟩
        have HB1 : Hid (Below w.heap.size w w1) := hbr.trans (hb1.mono hbr.size)
        have HR : Hid (IsU w1 w.heap.size a len c (touL Q.L X s (j + 1))) := by rw [HN.out]; exact HI.out.below hb1
        clear hb1 HAB HN HI
        go_wp2
        go_roundw
        case rel => exact ⟨j + 1, _, _, _, by omega, by go_num, rfl, HR, HB1.out⟩
        case measure => simp [intOf]; omega
      | true =>
        rw [hab] at HAB
        have hmore := able_lt hab
        have htl : j < s.ths.length := by omega
        obtain ⟨ob, oo, hA, y0, y1, y2, y3⟩ := hp.ord j (thOf s j).pc hlt hmore
        obtain ⟨rb, rc, hrv, hrb, _⟩ := hs.blk (.regs j) (by show 0 < (thOf s j).regs.length; rw [ho.regs j hlt]; exact hc.rg0)
        have hrn : pN Q s (.regs j) = rg := ho.regs j hlt
        rw [hrn] at hrv
        have dc := hs.code htb htl
        have dp := hs.pc htb htl
        have dr := hs.regs htb htl
        rw [hA] at dc
        rw [hrv] at dr
        have hL4 := hc.L4 j hlt
        have hwl := ho.words
        have hm64 := hc.m64
        have HWO : Hid (∀ W, Below w.heap.size w W → Calls Tryz.prog 46 #[ints4 (opT X s j 0) (opT X s j 1) (opT X s j 2) (opT X s j 3), .slice (some ⟨rb, 0, none⟩) rg rc] W fun e w' => ∃ (x : Int) (is : Bool), e = .returned (.tuple #[.int .i64 x, .bool is]) ∧ Hid ((is = false → twX X s j = none) ∧ (is = true → ∃ p, twX X s j = some (x, p)) ∧ Below W.heap.size W w')) := fun W hb => wordOf_ok W B Q sb mb v s X n m lk rg j rb rc (hs.below hb) ho hc hlt hab hrb
        have HHY : Hid (∀ W x, Below w.heap.size w W → 0 ≤ x ∧ x < (m : Int) → Calls Tryz.prog 180 #[.pointer (some ⟨mb, 0, none⟩), .int .i64 x] W fun e w' => e = .returned (.bool true) ∧ w' = W) := fun W x hb hx => has_yes W B Q sb mb v s x (hs.below hb) (by omega) (by rw [hwl]; exact hx)
        have HHN : Hid (∀ W x, Below w.heap.size w W → ¬ (0 ≤ x ∧ x < (m : Int)) → Calls Tryz.prog 180 #[.pointer (some ⟨mb, 0, none⟩), .int .i64 x] W fun e w' => e = .returned (.bool false) ∧ w' = W) := fun W x hb hx => has_no W B Q sb mb v s x (hs.below hb) (by omega) (by rw [hwl]; omega)
        have HMH : Hid (∀ W, Below w.heap.size w W → (method 379 Q.K.tid (.pointer (some ⟨Q.top mb, 0, none⟩)) "Has").run Tryz.prog W = .ok (180, .pointer (some ⟨mb, 0, none⟩)) W) := fun W hb => hM.mHas W B Q sb mb v s rfl (hs.below hb)
        have HIN : Hid (∀ x p, twX X s j = some (x, p) → 0 ≤ x ∧ x < (m : Int) → touL Q.L X s (j + 1) = touL Q.L X s j ++ [[(j : Int), ((thOf s j).pc : Int), opT X s j 0, x]]) := fun x p h1 h2 => by
          rw [touL_next]
          unfold touR
          rw [okT_in hab h1 (by rw [hwl]; exact h2)]
        have HOUT : Hid (∀ x p, twX X s j = some (x, p) → ¬ (0 ≤ x ∧ x < (m : Int)) → touL Q.L X s (j + 1) = touL Q.L X s j) := fun x p h1 h2 => by
          rw [touL_next]
          unfold touR
          rw [okT_out h1 (by rw [hwl]; exact h2), List.append_nil]
        have HEL : Hid (twX X s j = none → touL Q.L X s (j + 1) = touL Q.L X s j) := fun h => by
          rw [touL_next]
          unfold touR
          rw [okT_else h, List.append_nil]
        obtain ⟨op, eop⟩ : ∃ x, opT X s j 0 = x := ⟨_, rfl⟩
        obtain ⟨na, ena⟩ : ∃ x, opT X s j 1 = x := ⟨_, rfl⟩
        obtain ⟨nb, enb⟩ : ∃ x, opT X s j 2 = x := ⟨_, rfl⟩
        obtain ⟨nc, enc⟩ : ∃ x, opT X s j 3 = x := ⟨_, rfl⟩
        rw [eop, ena, enb, enc] at HWO
        rw [eop] at HIN
        change w.cell? ⟨ob, oo + (thOf s j).pc * 4, none⟩ = some (.int .i64 (opT X s j 0)) at y0
        change w.cell? ⟨ob, oo + (thOf s j).pc * 4 + 1, none⟩ = some (.int .i64 (opT X s j 1)) at y1
        change w.cell? ⟨ob, oo + (thOf s j).pc * 4 + 2, none⟩ = some (.int .i64 (opT X s j 2)) at y2
        change w.cell? ⟨ob, oo + (thOf s j).pc * 4 + 3, none⟩ = some (.int .i64 (opT X s j 3)) at y3
        rw [eop] at y0
        rw [ena] at y1
        rw [enb] at y2
        rw [enc] at y3
        obtain ⟨pc, epc⟩ : ∃ x, (thOf s j).pc = x := ⟨_, rfl⟩
        obtain ⟨LJ, elj⟩ : ∃ x, Q.L j = x := ⟨_, rfl⟩
        obtain ⟨CJ, ecj⟩ : ∃ x, Q.C j = x := ⟨_, rfl⟩
        rw [epc] at y0 y1 y2 y3 dp hmore HIN
        rw [elj] at dc hmore hL4
        rw [ecj] at dc
        have HK : Hid (∀ W, Below w.heap.size w W → (W.cell? ⟨sb, 1, none⟩ = some (.slice (some ⟨tb, 0, none⟩) n tc) ∧ W.cell? ⟨sb, 0, none⟩ = some (.iface Q.K.tid (.pointer (some ⟨Q.top mb, 0, none⟩)))) ∧ (W.cell? ⟨tb, j * 3, none⟩ = some (.slice (some ⟨ob, oo, none⟩) LJ CJ) ∧ W.cell? ⟨tb, j * 3 + 1, none⟩ = some (.int .i64 (pc : Int)) ∧ W.cell? ⟨tb, j * 3 + 2, none⟩ = some (.slice (some ⟨rb, 0, none⟩) rg rc)) ∧ W.cell? ⟨ob, oo + pc * 4, none⟩ = some (.int .i64 op) ∧ W.cell? ⟨ob, oo + pc * 4 + 1, none⟩ = some (.int .i64 na) ∧ W.cell? ⟨ob, oo + pc * 4 + 2, none⟩ = some (.int .i64 nb) ∧ W.cell? ⟨ob, oo + pc * 4 + 3, none⟩ = some (.int .i64 nc)) := fun W hb => ⟨⟨(hb.cell (lt_of_cell c1)).trans c1, (hb.cell (lt_of_cell c0)).trans c0⟩, ⟨(hb.cell (lt_of_cell dc)).trans dc, (hb.cell (lt_of_cell dp)).trans dp, (hb.cell (lt_of_cell dr)).trans dr⟩, (hb.cell (lt_of_cell y0)).trans y0, (hb.cell (lt_of_cell y1)).trans y1, (hb.cell (lt_of_cell y2)).trans y2, (hb.cell (lt_of_cell y3)).trans y3⟩
        clear hs hp ho hc hM hab hA hrv hrb hrn dc dp dr y0 y1 y2 y3 eop ena enb enc epc elj ecj htl hwl c0 c1 hth htb hnt
        go_wp2_with fail
        refine Calls.mono HAB.out ?_
        rintro e w1 ⟨rfl, hb1⟩
        have HB1 : Hid (Below w.heap.size w w1) := hbr.trans (hb1.mono hbr.size)
        have HI1 : Hid (IsU w1 w.heap.size a len c (touL Q.L X s j)) := HI.out.below hb1
        obtain ⟨⟨k1, k0⟩, ⟨kc, kp, kr⟩, z0, z1, z2, z3⟩ := HK.out _ HB1.out
        have kru := cell_up kr
        clear hb1 HAB HI
        go_wp2_with fail
        have kcu := cell_up kc
        have kpu := cell_up kp
        have z0u := cell_up z0
        have z1u := cell_up z1
        have z2u := cell_up z2
        have z3u := cell_up z3
        go_region
        all_goals go_wp2_with fail
        obtain ⟨V1, hV1⟩ : ∃ V, w1.alloc (.cells #[.int .i64 op, .int .i64 na, .int .i64 nb, .int .i64 nc] 34) = V := ⟨_, rfl⟩
        rw [hV1]
        have hbV : Below w1.heap.size w1 V1 := by rw [← hV1]; exact (Below.refl _ _).alloc (Nat.le_refl _) _
        have hbx : Below w.heap.size w V1 := HB1.out.trans (hbV.mono HB1.out.size)
        have hnew : V1.heap[w1.heap.size]? = some (.cells #[.int .i64 op, .int .i64 na, .int .i64 nb, .int .i64 nc] 34) := by rw [← hV1]; exact heap_alloc_new _ _
        have i0 : V1.cell? ⟨w1.heap.size, 0, none⟩ = some (.int .i64 op) := box_cell hnew rfl
        have i1 : V1.cell? ⟨w1.heap.size, 1, none⟩ = some (.int .i64 na) := box_cell hnew rfl
        have i2 : V1.cell? ⟨w1.heap.size, 2, none⟩ = some (.int .i64 nb) := box_cell hnew rfl
        have i3 : V1.cell? ⟨w1.heap.size, 3, none⟩ = some (.int .i64 nc) := box_cell hnew rfl
        have krV : V1.cell? ⟨tb, j * 3 + 2, none⟩ = some (.slice (some ⟨rb, 0, none⟩) rg rc) := (hbV.cell (lt_of_cell kr)).trans kr
        have HVV : Hid (Below w1.heap.size w1 V1 ∧ Below w.heap.size w V1) := ⟨hbV, hbx⟩
        clear hbV hbx hnew hV1 k0 k1 kc kp kr kru kcu kpu z0 z1 z2 z3 z0u z1u z2u z3u
        go_region_held3 (fun w' => w'.cell? ⟨w1.heap.size, 0, none⟩ = some (.int .i64 op) ∧ w'.cell? ⟨w1.heap.size, 1, none⟩ = some (.int .i64 na) ∧ w'.cell? ⟨w1.heap.size, 2, none⟩ = some (.int .i64 nb) ∧ w'.cell? ⟨w1.heap.size, 3, none⟩ = some (.int .i64 nc) ∧ w'.cell? ⟨tb, j * 3 + 2, none⟩ = some (.slice (some ⟨rb, 0, none⟩) rg rc)) (refine ⟨?_, ?_, ?_, ?_, ?_⟩ <;> (repeat (first | assumption | refine cell_drw ?_ | refine cell_up ?_ _))) ((go_at_call 46; refine Calls.mono (HWO.out _ (by first | exact HVV.out.2.drew | exact HVV.out.2.drew.drew | exact HVV.out.2)) ?_; rintro e w2 ⟨x, is, rfl, HX⟩; have hbx2 : Below V1.heap.size V1 w2 := (by first | exact (Below.refl _ _).drew.trans HX.out.2.2 | exact (Below.refl _ _).drew.drew.trans HX.out.2.2 | exact HX.out.2.2); have j0 : w2.cell? ⟨w1.heap.size, 0, none⟩ = some (.int .i64 op) := (hbx2.cell (lt_of_cell i0)).trans i0; have j1 : w2.cell? ⟨w1.heap.size, 1, none⟩ = some (.int .i64 na) := (hbx2.cell (lt_of_cell i1)).trans i1; have j2 : w2.cell? ⟨w1.heap.size, 2, none⟩ = some (.int .i64 nb) := (hbx2.cell (lt_of_cell i2)).trans i2; have j3 : w2.cell? ⟨w1.heap.size, 3, none⟩ = some (.int .i64 nc) := (hbx2.cell (lt_of_cell i3)).trans i3; have jr : w2.cell? ⟨tb, j * 3 + 2, none⟩ = some (.slice (some ⟨rb, 0, none⟩) rg rc) := (hbx2.cell (lt_of_cell krV)).trans krV; have HX2 := Hid.out (p := Hid _) hbx2; clear hbx2))
        have hb12 : Below w1.heap.size w1 w2 := HVV.out.1.trans (HX2.out.mono HVV.out.1.size)
        have HB2 : Hid (Below w.heap.size w w2) := HB1.out.trans (hb12.mono HB1.out.size)
        have hI2 := HI1.out.below hb12
        obtain ⟨⟨_, k0'⟩, ⟨_, kp', _⟩, _⟩ := HK.out _ HB2.out
        have mH := HMH.out _ HB2.out
        clear hb12 HK HWO HMH i0 i1 i2 i3 krV j1 j2 j3 jr HX2 HVV
        cases is with
        | false =>
          have HR : Hid (IsU w2 w.heap.size a len c (touL Q.L X s (j + 1))) := by rw [HEL.out (HX.out.1 rfl)]; exact hI2
          clear hI2 HX HIN HOUT HEL HHY HHN
          go_wp2
          go_roundw
          case rel => exact ⟨j + 1, _, _, _, by omega, by go_num, rfl, HR, HB2.out⟩
          case measure => simp [intOf]; omega
        | true =>
          obtain ⟨p, hp⟩ := HX.out.2.1 rfl
          by_cases hin : 0 ≤ x ∧ x < (m : Int)
          · have HH := Hid.out (p := Hid _) (HHY.out w2 x HB2.out hin)
            have HT := Hid.out (p := Hid _) (HIN.out x p hp hin)
            clear HX hp hin HIN HOUT HEL HHY HHN
            obtain ⟨g, cap, w3, hrun0, HS⟩ := hI2.push (W := w2.drew) (Below.refl _ _).drew HB2.out.size (by omega) (j : Int) (pc : Int) op x HB2.out.drew
            simp only [World.size_drew] at hrun0
            have hrun : (AppS #[56, 56] 56 #[.slice a len c, .slice (some ⟨w2.heap.size, 0, none⟩) 1 1]).run Tryz.prog ((w2.alloc (.cells #[.int .i64 (j : Int), .int .i64 (pc : Int), .int .i64 op, .int .i64 x] 94)).drew) = .ok (.slice (some ⟨g, 0, none⟩) (len + 1) cap) w3 := hrun0
            clear hrun0
            rw [← HT.out] at HS
            clear hI2 HT
            go_wp2_with fail
            refine Calls.mono HH.out ?_
            rintro e w4 ⟨rfl, rfl⟩
            have kpu := cell_up kp'
            have j0u := cell_up j0
            clear HH k0' mH
            go_wp2_with fail
            go_region
            all_goals go_wp2
            all_goals go_roundw
            case rel => exact ⟨j + 1, _, _, _, by omega, by go_num, rfl, Hid.out (p := Hid _) HS.out.1, HS.out.2⟩
            case measure => simp [intOf]; omega
          · have HH := Hid.out (p := Hid _) (HHN.out w2 x HB2.out hin)
            have HR : Hid (IsU w2 w.heap.size a len c (touL Q.L X s (j + 1))) := by rw [HOUT.out x p hp hin]; exact hI2
            clear HX hp hin HIN HOUT HEL HHY HHN hI2
            go_wp2_with fail
            refine Calls.mono HH.out ?_
            rintro e w4 ⟨rfl, rfl⟩
            go_wp2
            go_roundw
            case rel => exact ⟨j + 1, _, _, _, by omega, by go_num, rfl, HR, HB2.out⟩
            case measure => simp [intOf]; omega
    · obtain rfl : j = n := by omega
      clear hs hp ho hc hM
      go_wp2
      go_ret
      exact ⟨a, len, c, rfl, HI.out, hbr⟩

end Go.Proofs.YtgofbkgfonlceacGreatDoor
