/-
  What the program's Check does.
  Orders with their places led on, by the program.
-/
import Derived.Test.YtocfocjnnjdcgaaDoorOrder
import Derived.Test.YtocfocjnnjdcgaaDoorCOkP
import Derived.LoopN
namespace Go.Proofs.YtocfocjnnjdcgaaDoor
section
open Go.RowKit

theorem ret3 {a b c x y z : Int} (h : (x, y, z) = (a, b, c)) : Ending.returned (ints3 a b c) = .returned (ints3 x y z) := by
  simp only [Prod.mk.injEq] at h
  obtain ⟨rfl, rfl, rfl⟩ := h
  rfl

set_option maxHeartbeats 1000000 in
theorem check_sizes (ca : Option Addr) (n cc : Nat) (wa : Option Addr) (m wc : Nat) (lk rg : Int) (s : Int) (HS : Hid (s = sizesE n m lk rg)) (h0 : (s != 0) = true) (w : World) :
    Calls Tryd.prog 41 #[prgV ca n cc wa m wc lk rg] w fun e w' => e = .returned (ints3 s 0 0) ∧ Below w.heap.size w w' := by
  go_enter Tryd.func41, Tryd.ntmps41
  go_wp2_with (first | (go_at_call 65; refine (checkSizes_any _ _ _ _ _ _ _ _ _).mono ?_; rintro e w1 ⟨rfl, hb1⟩; rw [← HS.out]; have hbx := (boxes_made w ca n cc wa m wc lk rg 25 30).below hb1; obtain ⟨hsz, p0, p1, p2, p3, r0, r1, r2, f0, f1, f2⟩ := hbx))
  exact bodyPost_ret (v := ints3 s 0 0) (by simp [results, Tryd.results41, go_sem, r0, r1, r2]) rfl
    ⟨rfl, ((((((Below.refl _ _).alloc (Nat.le_refl _) _).alloc (by simp) _).trans (hb1.mono (by simp; omega))).setCell (by simp) _).setCell (by simp) _).setCell (by simp) _⟩

theorem shapes_some (w : World) :
    Calls Tryd.prog 66 #[] w fun e w' => e = .returned (.map (some (w.heap.size + 1))) ∧ w'.heap[w.heap.size + 1]? = some (.map shapesArr 18) ∧ Below w.heap.size w w' := by
  refine (shapes_any w).mono ?_
  rintro e w' ⟨rfl, rfl⟩
  exact ⟨rfl, by simpa using (MapKept.heap_alloc (w.alloc (.cells #[.int .i64 1, .int .i64 1, .int .i64 1] 146)) (.map shapesArr 18)).1, ((Below.refl _ _).alloc (Nat.le_refl _) _).alloc (by simp) _⟩

set_option maxHeartbeats 1000000 in
theorem check_go (ca : Option Addr) (n cc : Nat) (wa : Option Addr) (m wc : Nat) (lk rg : Int) (A : Nat → Option Addr) (L C : Nat → Nat) (X : Nat → Nat → Nat → Int) (s x y z : Int) (HS : Hid (s = sizesE n m lk rg)) (h0 : (s != 0) = false)
    (HR : Hid (firstThread (thr rg m lk L X) n 0 = (x, y, z))) (w : World) (hp : PIn w ca n A L C X) :
    Calls Tryd.prog 41 #[prgV ca n cc wa m wc lk rg] w fun e w' => e = .returned (ints3 x y z) ∧ Below w.heap.size w w' := by
  go_enter Tryd.func41, Tryd.ntmps41
  go_wp2_with (first | (go_at_call 65; refine (checkSizes_any _ _ _ _ _ _ _ _ _).mono ?_; rintro e w1 ⟨rfl, hb1⟩; rw [← HS.out]; have hbx := (boxes_made w ca n cc wa m wc lk rg 25 30).below hb1) | (go_at_call 66; refine (shapes_some _).mono ?_; rintro e w2 ⟨rfl, hmap, hb2⟩; have hby := hbx.below hb2; obtain ⟨hsz, p0, p1, p2, p3, r0, r1, r2, f0, f1, f2⟩ := hby))
  have hp2 : PIn w2 ca n A L C X := hp.below ((((Below.refl _ _).alloc (Nat.le_refl _) _).alloc (by simp) _).trans ((hb1.mono (by simp; omega)).trans (hb2.mono (Nat.le_trans (by omega) hbx.size))))
  have HB2 : Below w.heap.size w w2 := ((((Below.refl _ _).alloc (Nat.le_refl _) _).alloc (by simp) _).trans ((hb1.mono (by simp; omega)).trans (hb2.mono (Nat.le_trans (by omega) hbx.size))))
  have hmb : w1.heap.size + 1 < w2.heap.size := by
    rcases Nat.lt_or_ge (w1.heap.size + 1) w2.heap.size with h1 | h1
    · exact h1
    · rw [Array.getElem?_eq_none h1] at hmap; cases hmap
  have hby := hbx.below hb2
  have hn := hp.num
  clear hp hb1 hb2 hbx hsz p0 p1 p2 p3 r0 r1 r2 f0 f1 f2
  have HM : Hid (w2.heap[w1.heap.size + 1]? = some (.map shapesArr 18)) := hmap
  clear hmap
  go_loopw [21] (fun i wr => ∃ k : Nat, k ≤ n ∧ i = .int .i64 k ∧ Below w2.heap.size w2 wr ∧ firstThread (thr rg m lk L X) (n - k) k = (x, y, z)) (fun i _ => n - (intOf i).toNat)
  case atStart => exact ⟨0, Nat.zero_le _, rfl, Below.refl _ _, HR.out⟩
  case round =>
    obtain ⟨k, hk, rfl, hbr, hr⟩ := hrel
    have HK : Hid (firstThread (thr rg m lk L X) (n - k) k = (x, y, z)) := hr
    clear hr
    by_cases hlt : k < n
    · obtain ⟨cb, co, rfl, hcell⟩ := (hp2.below hbr).code k hlt
      by_cases h400 : 400 < L k
      · have hend : (x, y, z) = (1, (k : Int), 0) := by rw [← HK.out, firstThread_hit hlt (by unfold thr; rw [if_pos h400])]
        obtain ⟨hsz, p0, p1, p2, p3, r0, r1, r2, f0, f1, f2⟩ := hby.below hbr
        have HE : Hid ((x, y, z) = (1, (k : Int), 0)) := hend
        clear hend
        go_wp2
        exact bodyPost_ret (v := ints3 1 k 0) (by simp [results, Tryd.results41, go_sem, r0, r1, r2]) rfl
          ⟨ret3 HE.out, (((HB2.trans (hbr.mono HB2.size)).setCell (by simp) _).setCell (by simp) _).setCell (by simp) _⟩
      · have hl : L k ≤ 400 := by omega
        rcases Nat.eq_zero_or_pos (L k) with hz | hpos
        · have HZ : Hid (L k = 0) := hz
          clear hz
          obtain ⟨hsz, p0, p1, p2, p3, r0, r1, r2, f0, f1, f2⟩ := hby.below hbr
          go_wp2_with (first | (go_at_call 67; refine (limitsOf_any _ _ _ _ _ _ _ _ _ _ _ hl _).mono ?_; rintro e w3 ⟨rfl, hb3⟩))
          have hb4 : Below wr.heap.size wr (w3.alloc (.cells #[.int .i64 1, .int .i64 rg, .int .i64 m, .int .i64 lk, .int .i64 (L k + 1), .int .i64 0] 117)) := hb3.alloc hb3.size _
          have hs3 := hb3.size
          clear hsz p0 p1 p2 p3 r0 r1 r2 f0 f1 f2 hcell
          go_loopw [36] (fun i wi => ∃ j : Nat, j ≤ L k ∧ i = .int .i64 j ∧ Below (w3.heap.size + 1) (w3.alloc (.cells #[.int .i64 1, .int .i64 rg, .int .i64 m, .int .i64 lk, .int .i64 (L k + 1), .int .i64 0] 117)) wi ∧ firstBad (fun i => ordE rg m lk (L k) (X k i 0) (X k i 1) (X k i 2) (X k i 3)) (L k - j) j = thr rg m lk L X k) (fun i _ => L k - (intOf i).toNat)
          case atStart => exact ⟨0, Nat.zero_le _, rfl, Below.refl _ _, by unfold thr; rw [if_neg h400]; rfl⟩
          case round =>
            obtain ⟨j, hj, rfl, hbi, hfj⟩ := hrel
            have HF : Hid (firstBad (fun i => ordE rg m lk (L k) (X k i 0) (X k i 1) (X k i 2) (X k i 3)) (L k - j) j = thr rg m lk L X k) := hfj
            clear hfj
            have hsi : w3.heap.size + 1 ≤ wr.heap.size := by have := hbi.size; simpa using this
            have hbri := hb4.trans (hbi.mono (by omega))
            have hb2i : Below w2.heap.size w2 wr := hbr.trans (hbri.mono hbr.size)
            by_cases hjl : j < L k
            · exact absurd hjl (by have := HZ.out; omega)
            · have hth : thr rg m lk L X k = none := by rw [← HF.out, firstBad_end (by omega)]
              have HK2 : Hid (firstThread (thr rg m lk L X) (n - (k + 1)) (k + 1) = (x, y, z)) := by rw [← firstThread_step hlt hth]; exact HK.out
              clear hth HK HF
              go_wp2
              go_roundw
              case rel => exact ⟨k + 1, by omega, by go_num, hb2i, HK2.out⟩
              case measure => simp [intOf]; omega
        · obtain ⟨ab, ao, hA⟩ : ∃ ab ao, A k = some ⟨ab, ao, none⟩ := let ⟨ab, ao, h, _⟩ := hp2.ord k 0 hlt hpos; ⟨ab, ao, h⟩
          rw [hA] at hcell
          obtain ⟨hsz, p0, p1, p2, p3, r0, r1, r2, f0, f1, f2⟩ := hby.below hbr
          go_wp2_with (first | (go_at_call 67; refine (limitsOf_any _ _ _ _ _ _ _ _ _ _ _ hl _).mono ?_; rintro e w3 ⟨rfl, hb3⟩))
          have hb4 : Below wr.heap.size wr (w3.alloc (.cells #[.int .i64 1, .int .i64 rg, .int .i64 m, .int .i64 lk, .int .i64 (L k + 1), .int .i64 0] 117)) := hb3.alloc hb3.size _
          have hs3 := hb3.size
          clear hsz p0 p1 p2 p3 r0 r1 r2 f0 f1 f2 hcell
          go_loopw [36] (fun i wi => ∃ j : Nat, j ≤ L k ∧ i = .int .i64 j ∧ Below (w3.heap.size + 1) (w3.alloc (.cells #[.int .i64 1, .int .i64 rg, .int .i64 m, .int .i64 lk, .int .i64 (L k + 1), .int .i64 0] 117)) wi ∧ firstBad (fun i => ordE rg m lk (L k) (X k i 0) (X k i 1) (X k i 2) (X k i 3)) (L k - j) j = thr rg m lk L X k) (fun i _ => L k - (intOf i).toNat)
          case atStart => exact ⟨0, Nat.zero_le _, rfl, Below.refl _ _, by unfold thr; rw [if_neg h400]; rfl⟩
          case round =>
            obtain ⟨j, hj, rfl, hbi, hfj⟩ := hrel
            have HF : Hid (firstBad (fun i => ordE rg m lk (L k) (X k i 0) (X k i 1) (X k i 2) (X k i 3)) (L k - j) j = thr rg m lk L X k) := hfj
            clear hfj
            have hsi : w3.heap.size + 1 ≤ wr.heap.size := by have := hbi.size; simpa using this
            have hbri := hb4.trans (hbi.mono (by omega))
            have hb2i : Below w2.heap.size w2 wr := hbr.trans (hbri.mono hbr.size)
            by_cases hjl : j < L k
            · obtain ⟨b', o', hA', c0, c1, c2, c3⟩ := (hp2.below hb2i).ord k j hlt hjl
              obtain ⟨rfl, rfl⟩ : b' = ab ∧ o' = ao := by rw [hA] at hA'; simpa [eq_comm] using hA'
              clear hA'
              have l0 : ∀ o, (wr.alloc o).cell? ⟨w3.heap.size, 0, none⟩ = some (.int .i64 1) := fun o => (World.cell?_alloc_lt wr o _ (by show w3.heap.size < _; omega)).trans ((hbi.cell (p := ⟨w3.heap.size, 0, none⟩) (by simp)).trans (by go_simp))
              have l1 : ∀ o, (wr.alloc o).cell? ⟨w3.heap.size, 1, none⟩ = some (.int .i64 rg) := fun o => (World.cell?_alloc_lt wr o _ (by show w3.heap.size < _; omega)).trans ((hbi.cell (p := ⟨w3.heap.size, 1, none⟩) (by simp)).trans (by go_simp))
              have l2 : ∀ o, (wr.alloc o).cell? ⟨w3.heap.size, 2, none⟩ = some (.int .i64 m) := fun o => (World.cell?_alloc_lt wr o _ (by show w3.heap.size < _; omega)).trans ((hbi.cell (p := ⟨w3.heap.size, 2, none⟩) (by simp)).trans (by go_simp))
              have l3 : ∀ o, (wr.alloc o).cell? ⟨w3.heap.size, 3, none⟩ = some (.int .i64 lk) := fun o => (World.cell?_alloc_lt wr o _ (by show w3.heap.size < _; omega)).trans ((hbi.cell (p := ⟨w3.heap.size, 3, none⟩) (by simp)).trans (by go_simp))
              have l4 : ∀ o, (wr.alloc o).cell? ⟨w3.heap.size, 4, none⟩ = some (.int .i64 (L k + 1)) := fun o => (World.cell?_alloc_lt wr o _ (by show w3.heap.size < _; omega)).trans ((hbi.cell (p := ⟨w3.heap.size, 4, none⟩) (by simp)).trans (by go_simp))
              have l5 : ∀ o, (wr.alloc o).cell? ⟨w3.heap.size, 5, none⟩ = some (.int .i64 0) := fun o => (World.cell?_alloc_lt wr o _ (by show w3.heap.size < _; omega)).trans ((hbi.cell (p := ⟨w3.heap.size, 5, none⟩) (by simp)).trans (by go_simp))
              have hmi : ∀ o, (wr.alloc o).heap[w1.heap.size + 1]? = some (.map shapesArr 18) := fun o => by
                rw [Below.heap_alloc _ _ _ (Nat.lt_of_lt_of_le hmb hb2i.size), hb2i.block _ hmb]; exact HM.out
              obtain ⟨ev, hev⟩ : ∃ ev, ordE rg m lk (L k) (X k j 0) (X k j 1) (X k j 2) (X k j 3) = ev := ⟨_, rfl⟩
              have HE : Hid (ordE rg m lk (L k) (X k j 0) (X k j 1) (X k j 2) (X k j 3) = ev) := hev
              clear hev
              by_cases hE : ev = 0
              · have hne : (ev != 0) = false := by simpa using hE
                have HF2 : Hid (firstBad (fun i => ordE rg m lk (L k) (X k i 0) (X k i 1) (X k i 2) (X k i 3)) (L k - (j + 1)) (j + 1) = thr rg m lk L X k) := by rw [← firstBad_step hjl (HE.out.trans hE)]; exact HF.out
                clear hE HF
                go_wp2_with (first | (go_at_call 68; refine (checkOrder_any _ _ _ _ _ _ _ _ _ _ (hmi _)).mono ?_; rintro e w5 ⟨rfl, hb5⟩; rw [HE.out]))
                go_roundw
                case rel => exact ⟨j + 1, by omega, by go_num, hbi.trans (((Below.refl _ _).alloc hsi _).trans (hb5.mono (by simp; omega))), HF2.out⟩
                case measure => simp [intOf]; omega
              · have hne : (ev != 0) = true := by simpa using hE
                have HE2 : Hid ((x, y, z) = (ev, (k : Int), (j : Int))) := by
                  have := firstBad_hit (E := fun i => ordE rg m lk (L k) (X k i 0) (X k i 1) (X k i 2) (X k i 3)) hjl (by rw [HE.out]; exact hE)
                  rw [HF.out, HE.out] at this
                  show (x, y, z) = _
                  rw [← HK.out, firstThread_hit hlt this]
                clear hE HF HK
                go_wp2_with (first | (go_at_call 68; refine (checkOrder_any _ _ _ _ _ _ _ _ _ _ (hmi _)).mono ?_; rintro e w5 ⟨rfl, hb5⟩; rw [HE.out]; have hbx6 := ((hby.below hb2i).below ((Below.refl _ _).alloc (Nat.le_refl _) _)).below hb5; obtain ⟨hsz, p0, p1, p2, p3, r0, r1, r2, f0, f1, f2⟩ := hbx6))
                exact bodyPost_ret (v := ints3 ev k j) (by simp [results, Tryd.results41, go_sem, r0, r1, r2]) rfl
                  ⟨ret3 HE2.out, ((((HB2.trans (hb2i.mono HB2.size)).trans (((Below.refl _ _).alloc (by have := HB2.size; have := hb2i.size; omega) _).trans (hb5.mono (by have := HB2.size; have := hb2i.size; simp; omega)))).setCell (by simp) _).setCell (by simp) _).setCell (by simp) _⟩
            · have hth : thr rg m lk L X k = none := by rw [← HF.out, firstBad_end (by omega)]
              have HK2 : Hid (firstThread (thr rg m lk L X) (n - (k + 1)) (k + 1) = (x, y, z)) := by rw [← firstThread_step hlt hth]; exact HK.out
              clear hth HK HF
              go_wp2
              go_roundw
              case rel => exact ⟨k + 1, by omega, by go_num, hb2i, HK2.out⟩
              case measure => simp [intOf]; omega
    · have hend : (x, y, z) = (0, 0, 0) := by rw [← HK.out, firstThread_end (by omega)]
      obtain ⟨hsz, p0, p1, p2, p3, r0, r1, r2, f0, f1, f2⟩ := hby.below hbr
      have HE : Hid ((x, y, z) = (0, 0, 0)) := hend
      clear hend
      go_wp2
      exact bodyPost_ret (v := ints3 0 0 0) (by simp [results, Tryd.results41, go_sem, r0, r1, r2]) rfl
        ⟨ret3 HE.out, (((HB2.trans (hbr.mono HB2.size)).setCell (by simp) _).setCell (by simp) _).setCell (by simp) _⟩

/-- Check, of every program that lies in memory: it answers the first thing that is wrong, and nothing that was there has changed. -/
theorem check_any (ca : Option Addr) (n cc : Nat) (wa : Option Addr) (m wc : Nat) (lk rg : Int) (A : Nat → Option Addr) (L C : Nat → Nat) (X : Nat → Nat → Nat → Int) (x y z : Int) (HR : Hid (chk n L X m lk rg = (x, y, z))) (w : World) (hp : PIn w ca n A L C X) :
    Calls Tryd.prog 41 #[prgV ca n cc wa m wc lk rg] w fun e w' => e = .returned (ints3 x y z) ∧ Below w.heap.size w w' := by
  have h := HR.out
  unfold chk at h
  by_cases h0 : sizesE n m lk rg = 0
  · rw [if_neg (by simpa using h0)] at h
    exact check_go ca n cc wa m wc lk rg A L C X _ x y z rfl (by simpa using h0) h w hp
  · rw [if_pos h0] at h
    simp only [Prod.mk.injEq] at h
    obtain ⟨h1, rfl, rfl⟩ := h
    exact check_sizes ca n cc wa m wc lk rg x h1.symm (by rw [← h1]; simpa using h0) w
end

section
open Go.RowKit

theorem orderOf4_any (op a b c : Int) (w : World) :
    Calls Tryd.prog 86 #[.int .i64 op, ints3 a b c] w fun e w' => e = .returned (ints4 op a b c) ∧ Below w.heap.size w w' := by
  go_enter Tryd.func86, Tryd.ntmps86
  go_wp2
  exact bodyPost_ret (v := ints4 op a b c) (by simp [results, Tryd.results86, go_sem]) rfl ⟨rfl, ((Below.refl _ _).alloc (Nat.le_refl _) _).alloc (by simp) _⟩
theorem look4 {P : Program} {mty kt et : TypeId} (hm : P.underlying mty = some (.map kt et)) (hk : P.underlying kt = some (.int .i64)) (w : World) (r c : Nat) (es : Array MapEntry) (k : Int) (j : Nat) (v : Value)
    (hb : w.heap[r]? = some (.map es c)) (hf : Instr.findNow (.int .i64) (.int .i64 k) es.toList 0 = some (some (j, v))) :
    (Instr.lookup mty (.map (some r)) (.int .i64 k) false).run P w = .ok v w := by
  have hc : (Instr.checkKey es.isEmpty 10000 kt (.int .i64 k)).run P w = .ok () w := MapKept.run_checkKey hk (by simp [MapKept.IsKey]) _ 9999
  simp [Instr.lookup, run_underlying hm, MapKept.run_getObj_map hb, hc, MapKept.run_findKey hk hf, Result.andThen]
/-- What is known while orders are led on. -/
structure LdI (w : World) (B g cap mb : Nat) (l : List I4) (pl : Nat → Nat) (pa : Option Addr) (ps : List Int) (k : Nat) (W : World) : Prop where
  own : OwnC W B (.slice (some ⟨g, 0, none⟩) l.length cap) ((l.take k).map (ledO pl) ++ l.drop k)
  map : W.heap[mb]? = some (.map shapesArr 18)
  pls : SIs W pa ps
  grown : w.grownBy W (some g)
  lt : g < w.heap.size
  mbg : mb ≠ g

theorem led_list {l : List I4} {f : I4 → I4} {k : Nat} (hk : k < l.length) (d : I4) : ((l.take k).map f ++ l.drop k).set k (f (l.getD k d)) = (l.take (k + 1)).map f ++ l.drop (k + 1) := by
  apply List.ext_getElem?
  intro i
  have e : l.getD k d = l[k] := by simp [List.getD, hk]
  rw [e]
  rcases Nat.lt_trichotomy i k with h | h | h
  · rw [List.getElem?_set_ne (by omega), List.getElem?_append_left (by simp; omega), List.getElem?_append_left (by simp; omega)]
    simp [h, show i < k + 1 by omega]
  · subst h
    rw [List.getElem?_set_self (by simp; omega), List.getElem?_append_left (by simp; omega)]
    simp [hk]
  · rw [List.getElem?_set_ne (by omega), List.getElem?_append_right (by simp; omega), List.getElem?_append_right (by simp; omega)]
    simp only [List.length_map, List.length_take, List.getElem?_drop]
    congr 1
    omega
theorem LdI.next {w W V : World} {B g cap mb : Nat} {l : List I4} {pl : Nat → Nat} {pa : Option Addr} {ps : List Int} {k : Nat} (h : LdI w B g cap mb l pl pa ps k W) (hk : k < l.length) (hb : Below W.heap.size W V) (hpg : ∀ b o, pa = some ⟨b, o, none⟩ → b ≠ g) {y : I4} (hy : y = ledO pl (l.getD k fenceI)) :
    LdI w B g cap mb l pl pa ps (k + 1) ((((V.setCell ⟨g, k * 4, none⟩ (.int .i64 y.1)).setCell ⟨g, k * 4 + 1, none⟩ (.int .i64 y.2.1)).setCell ⟨g, k * 4 + 2, none⟩ (.int .i64 y.2.2.1)).setCell ⟨g, k * 4 + 3, none⟩ (.int .i64 y.2.2.2)) := by
  subst hy
  have hs : w.heap.size ≤ W.heap.size := h.grown.size
  have hgl := h.lt
  have e : ∀ (Z : World) (q : Nat) (u : Value) (b : Nat), b ≠ g → (Z.setCell ⟨g, q, none⟩ u).heap[b]? = Z.heap[b]? := fun Z q u b hne => Below.heap_setCell _ _ _ _ (fun x => hne (by simpa using x))
  have hV : w.grownBy V (some g) := ⟨hb.os.trans h.grown.os, hb.tape.trans h.grown.tape, hb.output.trans h.grown.output, Nat.le_trans hs hb.size, fun q hq hne => (hb.block q (by omega)).trans (h.grown.block q hq hne)⟩
  refine ⟨?_, ?_, fun i hi => ?_, ⟨hV.os, hV.tape, hV.output, by simpa using hV.size, fun q hq hne => ?_⟩, hgl, h.mbg⟩
  · have h1 := h.own.below hb
    unfold OwnC at h1 ⊢
    have hlen : ((l.take k).map (ledO pl) ++ l.drop k).length = l.length := by simp; omega
    have hlen2 : ((l.take (k + 1)).map (ledO pl) ++ l.drop (k + 1)).length = l.length := by simp; omega
    rw [hlen] at h1
    rw [hlen2, ← led_list hk fenceI, ← cellsT_set (by rw [hlen]; exact hk)]
    exact fam_put (fam_put (fam_put (fam_put h1 rfl _ _) rfl _ _) rfl _ _) rfl _ _
  · have hne := h.mbg
    rw [e _ _ _ _ hne, e _ _ _ _ hne, e _ _ _ _ hne, e _ _ _ _ hne, ← h.map]
    exact hb.block _ (by
      rcases Nat.lt_or_ge mb W.heap.size with h1 | h1
      · exact h1
      · have := h.map; rw [Array.getElem?_eq_none h1] at this; cases this)
  · obtain ⟨b, o, e1, h1⟩ := h.pls i hi
    have hne := hpg b o e1
    refine ⟨b, o, e1, ?_⟩
    have h2 := (hb.cell (lt_of_cell h1)).trans h1
    rw [World.cell?_of_block (w := V) (by rw [e _ _ _ _ hne, e _ _ _ _ hne, e _ _ _ _ hne, e _ _ _ _ hne])]
    exact h2
  · have hne' : q ≠ g := fun x => hne (by rw [x])
    rw [e _ _ _ _ hne', e _ _ _ _ hne', e _ _ _ _ hne', e _ _ _ _ hne']
    exact hV.block q hq hne

set_option maxRecDepth 100000 in
set_option maxHeartbeats 1600000 in
theorem lead_any (w : World) (B g cap : Nat) (l : List I4) (pl : Nat → Nat) (pa : Option Addr) (pc : Nat) (ps : List Int) (hown : OwnC w B (.slice (some ⟨g, 0, none⟩) l.length cap) l) (hps : SIs w pa ps) (hpg : ∀ b o, pa = some ⟨b, o, none⟩ → b ≠ g) (hpl : ∀ i, i < ps.length → ps.getD i 0 = (pl i : Int)) (hk : ∀ x, x ∈ l → 1 ≤ x.1 ∧ x.1 ≤ 18) (h14 : ∀ x, x ∈ l → x.1 = 14 → 0 ≤ x.2.1 ∧ x.2.1 < ps.length) (h15 : ∀ x, x ∈ l → x.1 = 15 → 0 ≤ x.2.2.1 ∧ x.2.2.1 < ps.length) (hl : l.length ≤ 1000000) :
    Calls Tryd.prog 59 #[.slice (some ⟨g, 0, none⟩) l.length cap, .slice pa ps.length pc] w fun e w' => e = .returned (.tuple #[]) ∧ OwnC w' B (.slice (some ⟨g, 0, none⟩) l.length cap) (l.map (ledO pl)) ∧ w.grownBy w' (some g) := by
  obtain ⟨n, hn⟩ : ∃ n, l.length = n := ⟨_, rfl⟩
  obtain ⟨pn, hpn'⟩ : ∃ n, ps.length = n := ⟨_, rfl⟩
  have HN : Hid (l.length = n ∧ ps.length = pn) := ⟨hn, hpn'⟩
  have hgl : g < w.heap.size := lt_of_owns hown rfl
  have HST : Hid (∀ w1, w1.heap[w.heap.size + 1]? = some (.map shapesArr 18) → Below w.heap.size w w1 → LdI w B g cap (w.heap.size + 1) l pl pa ps 0 w1) := fun w1 h1 h2 => ⟨by simpa using hown.below h2, h1, hps.below h2, ⟨h2.os, h2.tape, h2.output, h2.size, fun k hk _ => h2.block k hk⟩, hgl, by omega⟩
  have HPG := Hid.out (p := Hid _) hpg
  have HPL := Hid.out (p := Hid _) hpl
  have HK := Hid.out (p := Hid _) hk
  have H14 := Hid.out (p := Hid _) h14
  have H15 := Hid.out (p := Hid _) h15
  rw [hn, hpn']
  rw [hn] at hl
  clear hown hps hpg hpl hk h14 h15 hn hpn'
  go_enter Tryd.func59, Tryd.ntmps59
  go_wp2_with (first | (go_at_call 66; refine (shapes_some _).mono ?_; rintro e w1 ⟨rfl, hmap, hb1⟩))
  have HS := Hid.out (p := Hid _) (HST.out w1 hmap hb1)
  clear HST hmap hb1
  go_loopw [13] (fun i wr => ∃ k : Nat, k ≤ n ∧ i = .int .i64 k ∧ Hid (LdI w B g cap (w.heap.size + 1) l pl pa ps k wr)) (fun i _ => n - (intOf i).toNat)
  case atStart => exact ⟨0, Nat.zero_le _, rfl, HS⟩
  case round =>
    obtain ⟨k, hk, rfl, HL⟩ := hrel
    clear HS
    by_cases hlt : k < n
    · obtain ⟨x, hx⟩ : ∃ x, l.getD k fenceI = x := ⟨_, rfl⟩
      obtain ⟨op, a, b, c⟩ := x
      have hkl : k < l.length := by have := HN.out.1; omega
      have hmem : (op, a, b, c) ∈ l := by rw [← hx, List.getD_eq_getElem?_getD, List.getElem?_eq_getElem hkl]; exact List.getElem_mem hkl
      have hcur : ((l.take k).map (ledO pl) ++ l.drop k).getD k fenceI = (op, a, b, c) := by
        rw [← hx]
        simp [List.getD, hkl, Nat.le_of_lt hkl]
      have hclen : k < ((l.take k).map (ledO pl) ++ l.drop k).length := by simp; omega
      obtain ⟨y0, y1, y2, y3⟩ := cellsT_at hclen fenceI
      rw [hcur] at y0 y1 y2 y3
      have c0 := fam_cell HL.out.own (g := g) rfl y0
      have c1 := fam_cell HL.out.own (g := g) rfl y1
      have c2 := fam_cell HL.out.own (g := g) rfl y2
      have c3 := fam_cell HL.out.own (g := g) rfl y3
      have HX : Hid (l.getD k fenceI = (op, a, b, c) ∧ (op, a, b, c) ∈ l ∧ k < l.length) := ⟨hx, hmem, hkl⟩
      clear hx hmem hcur hclen y0 y1 y2 y3 hkl
      simp only at c0 c1 c2 c3
      obtain ⟨j, x, y, z, hkd, hj⟩ := find_in (HK.out _ HX.out.2.1)
      have hsz : g < wr.heap.size := by have := HL.out.grown.size; have := HL.out.lt; omega
      have HLK : Hid (∀ V, V.heap[w.heap.size + 1]? = wr.heap[w.heap.size + 1]? → (Instr.lookup 114 (.map (some (w.heap.size + 1))) (.int .i64 op) false).run Tryd.prog V = .ok (.agg #[.string (nm op), .int .i64 x, .int .i64 y, .int .i64 z]) V) := fun V hV => by
        exact look4 Tryd.underlying114 Tryd.underlying3 V _ 18 shapesArr op j _ (hV.trans HL.out.map) hj
      clear hj
      have hmbl : w.heap.size + 1 < wr.heap.size := by
        rcases Nat.lt_or_ge (w.heap.size + 1) wr.heap.size with h1 | h1
        · exact h1
        · have := HL.out.map; rw [Array.getElem?_eq_none h1] at this; cases this
      have hfd : ∀ W, (Instr.field 148 (.agg #[.string (nm op), .int .i64 x, .int .i64 y, .int .i64 z]) 1).run Tryd.prog W = .ok (.agg #[.int .i64 x, .int .i64 y, .int .i64 z]) W := fun _ => by kernel_rfl
      have i0 : ∀ W, (Instr.index 146 (.agg #[.int .i64 x, .int .i64 y, .int .i64 z]) (.int .i64 0)).run Tryd.prog W = .ok (.int .i64 x) W := fun _ => by kernel_rfl
      have i1 : ∀ W, (Instr.index 146 (.agg #[.int .i64 x, .int .i64 y, .int .i64 z]) (.int .i64 1)).run Tryd.prog W = .ok (.int .i64 y) W := fun _ => by kernel_rfl
      have i2 : ∀ W, (Instr.index 146 (.agg #[.int .i64 x, .int .i64 y, .int .i64 z]) (.int .i64 2)).run Tryd.prog W = .ok (.int .i64 z) W := fun _ => by kernel_rfl
      have HCF : Hid (∀ V, Below wr.heap.size wr V → (V.cell? ⟨g, k * 4, none⟩ = some (.int .i64 op) ∧ V.cell? ⟨g, k * 4 + 1, none⟩ = some (.int .i64 a) ∧ V.cell? ⟨g, k * 4 + 2, none⟩ = some (.int .i64 b) ∧ V.cell? ⟨g, k * 4 + 3, none⟩ = some (.int .i64 c)) ∧ ∀ q, V.frozen? ⟨g, q, none⟩ = false) := fun V hV => ⟨⟨(hV.cell (p := ⟨g, k * 4, none⟩) hsz).trans c0, (hV.cell (p := ⟨g, k * 4 + 1, none⟩) hsz).trans c1, (hV.cell (p := ⟨g, k * 4 + 2, none⟩) hsz).trans c2, (hV.cell (p := ⟨g, k * 4 + 3, none⟩) hsz).trans c3⟩, fun q => fam_frozen (HL.out.own.below hV) rfl q⟩
      have HNX : Hid (∀ V y, Below wr.heap.size wr V → y = ledO pl (op, a, b, c) → LdI w B g cap (w.heap.size + 1) l pl pa ps (k + 1) ((((V.setCell ⟨g, k * 4, none⟩ (.int .i64 y.1)).setCell ⟨g, k * 4 + 1, none⟩ (.int .i64 y.2.1)).setCell ⟨g, k * 4 + 2, none⟩ (.int .i64 y.2.2.1)).setCell ⟨g, k * 4 + 3, none⟩ (.int .i64 y.2.2.2))) := fun V y hV hy => HL.out.next HX.out.2.2 hV HPG.out (by rw [HX.out.1]; exact hy)
      have hcls : op = 14 ∨ op = 15 ∨ (op ≠ 14 ∧ op ≠ 15) := by omega
      rcases hcls with rfl | rfl | ⟨hn14, hn15⟩
      · obtain ⟨rfl, rfl, rfl⟩ : x = 4 ∧ y = 0 ∧ z = 0 := by simpa [kd, eq_comm] using hkd
        clear hkd
        obtain ⟨q, rfl, hq⟩ := toN (n := ps.length) (H14.out _ HX.out.2.1 rfl)
        obtain ⟨pb, po, rfl, hp0⟩ := HL.out.pls q hq
        rw [HPL.out q hq] at hp0
        have hqn : q < pn := by have := HN.out.2; omega
        have hpb : pb < wr.heap.size := lt_of_cell hp0
        have HPC : Hid (∀ V, Below wr.heap.size wr V → V.cell? ⟨pb, po + q, none⟩ = some (.int .i64 (pl q))) := fun V hV => (hV.cell (p := ⟨pb, po + q, none⟩) hpb).trans hp0
        clear hp0
        go_wp2_with (first | (go_at_call 85; refine (numbersOf_any _ _ _ _ _).mono ?_; rintro e w2 ⟨rfl, hb2⟩; have hz2 : wr.heap.size < w2.heap.size := (by have := hb2.size; simp at this; omega); have b60 : w2.cell? ⟨wr.heap.size, 0, none⟩ = some (.int .i64 14) := (hb2.cell (p := ⟨wr.heap.size, 0, none⟩) (by simp)).trans (by go_simp); have hbw : Below wr.heap.size wr w2 := ((Below.refl _ _).alloc (Nat.le_refl _) _).trans (hb2.mono (by simp)); have hlk := fun o => HLK.out (w2.alloc o) ((Below.heap_alloc _ _ _ (Nat.lt_of_lt_of_le hmbl hbw.size)).trans (hbw.block _ hmbl)); have hpc := HPC.out w2 hbw; have hpb2 : pb < w2.heap.size := Nat.lt_of_lt_of_le hpb hbw.size; clear c0 c1 c2 c3))
        refine wp_loop_rounds 4 ?_
        iterate 4 (rw [rounds_succ]; go_wp2_with (first | (go_at_call 86; refine (orderOf4_any _ _ _ _ _).mono ?_; rintro e w3 ⟨rfl, hb3⟩; have hbw3 : Below wr.heap.size wr w3 := (hbw.alloc hbw.size _).trans (hb3.mono (by have := hbw.size; simp; omega)); obtain ⟨⟨d0, d1, d2, d3⟩, df⟩ := HCF.out w3 hbw3)))
        go_roundw
        case rel => exact ⟨k + 1, by omega, by go_num, HNX.out w3 (14, (pl q : Int), b, c) hbw3 (by unfold ledO; simp)⟩
        case measure => simp [intOf]; omega
      · obtain ⟨rfl, rfl, rfl⟩ : x = 1 ∧ y = 4 ∧ z = 0 := by simpa [kd, eq_comm] using hkd
        clear hkd
        obtain ⟨q, rfl, hq⟩ := toN (n := ps.length) (H15.out _ HX.out.2.1 rfl)
        obtain ⟨pb, po, rfl, hp0⟩ := HL.out.pls q hq
        rw [HPL.out q hq] at hp0
        have hqn : q < pn := by have := HN.out.2; omega
        have hpb : pb < wr.heap.size := lt_of_cell hp0
        have HPC : Hid (∀ V, Below wr.heap.size wr V → V.cell? ⟨pb, po + q, none⟩ = some (.int .i64 (pl q))) := fun V hV => (hV.cell (p := ⟨pb, po + q, none⟩) hpb).trans hp0
        clear hp0
        go_wp2_with (first | (go_at_call 85; refine (numbersOf_any _ _ _ _ _).mono ?_; rintro e w2 ⟨rfl, hb2⟩; have hz2 : wr.heap.size < w2.heap.size := (by have := hb2.size; simp at this; omega); have b60 : w2.cell? ⟨wr.heap.size, 0, none⟩ = some (.int .i64 15) := (hb2.cell (p := ⟨wr.heap.size, 0, none⟩) (by simp)).trans (by go_simp); have hbw : Below wr.heap.size wr w2 := ((Below.refl _ _).alloc (Nat.le_refl _) _).trans (hb2.mono (by simp)); have hlk := fun o => HLK.out (w2.alloc o) ((Below.heap_alloc _ _ _ (Nat.lt_of_lt_of_le hmbl hbw.size)).trans (hbw.block _ hmbl)); have hpc := HPC.out w2 hbw; have hpb2 : pb < w2.heap.size := Nat.lt_of_lt_of_le hpb hbw.size; clear c0 c1 c2 c3))
        refine wp_loop_rounds 4 ?_
        iterate 4 (rw [rounds_succ]; go_wp2_with (first | (go_at_call 86; refine (orderOf4_any _ _ _ _ _).mono ?_; rintro e w3 ⟨rfl, hb3⟩; have hbw3 : Below wr.heap.size wr w3 := (hbw.alloc hbw.size _).trans (hb3.mono (by have := hbw.size; simp; omega)); obtain ⟨⟨d0, d1, d2, d3⟩, df⟩ := HCF.out w3 hbw3)))
        go_roundw
        case rel => exact ⟨k + 1, by omega, by go_num, HNX.out w3 (15, a, (pl q : Int), c) hbw3 (by unfold ledO; simp)⟩
        case measure => simp [intOf]; omega
      · have hne4 : (x == 4) = false ∧ (y == 4) = false ∧ (z == 4) = false := by
          rcases op_cases op with h1 | rfl | rfl | rfl | rfl | rfl | rfl | rfl | rfl | rfl | rfl | rfl | rfl | rfl | rfl | rfl | rfl | rfl | rfl
          · rw [kd_out h1] at hkd; cases hkd
          all_goals first
            | exact absurd rfl hn14
            | exact absurd rfl hn15
            | (simp only [kd] at hkd; simp at hkd; obtain ⟨rfl, rfl, rfl⟩ := hkd; decide)
        obtain ⟨hx4, hy4, hz4⟩ := hne4
        go_wp2_with (first | (go_at_call 85; refine (numbersOf_any _ _ _ _ _).mono ?_; rintro e w2 ⟨rfl, hb2⟩; have hz2 : wr.heap.size < w2.heap.size := (by have := hb2.size; simp at this; omega); have b60 : w2.cell? ⟨wr.heap.size, 0, none⟩ = some (.int .i64 op) := (hb2.cell (p := ⟨wr.heap.size, 0, none⟩) (by simp)).trans (by go_simp); have hbw : Below wr.heap.size wr w2 := ((Below.refl _ _).alloc (Nat.le_refl _) _).trans (hb2.mono (by simp)); have hlk := fun o => HLK.out (w2.alloc o) ((Below.heap_alloc _ _ _ (Nat.lt_of_lt_of_le hmbl hbw.size)).trans (hbw.block _ hmbl)); clear c0 c1 c2 c3))
        refine wp_loop_rounds 4 ?_
        iterate 4 (rw [rounds_succ]; go_wp2_with (first | (go_at_call 86; refine (orderOf4_any _ _ _ _ _).mono ?_; rintro e w3 ⟨rfl, hb3⟩; have hbw3 : Below wr.heap.size wr w3 := (hbw.alloc hbw.size _).trans (hb3.mono (by have := hbw.size; simp; omega)); obtain ⟨⟨d0, d1, d2, d3⟩, df⟩ := HCF.out w3 hbw3)))
        go_roundw
        case rel => exact ⟨k + 1, by omega, by go_num, HNX.out w3 (op, a, b, c) hbw3 (by unfold ledO; simp only [if_neg hn14, if_neg hn15])⟩
        case measure => simp [intOf]; omega
    · go_wp2
      go_end0
      refine ⟨rfl, ?_, HL.out.grown⟩
      have h := HL.out.own
      have e : k = l.length := by have := HN.out.1; omega
      rw [e, List.take_length, List.drop_length, List.append_nil, HN.out.1] at h
      exact h
theorem lead_nil (w : World) (pa : Option Addr) (pn pc : Nat) : Calls Tryd.prog 59 #[nilV, .slice pa pn pc] w fun e w' => e = .returned (.tuple #[]) ∧ Below w.heap.size w w' := by
  go_enter Tryd.func59, Tryd.ntmps59
  go_wp2_with (first | (go_at_call 66; refine (shapes_some _).mono ?_; rintro e w1 ⟨rfl, hmap, hb1⟩))
  clear hmap
  go_loopw [13] (fun i wr => i = .int .i64 0 ∧ wr = w1) (fun _ _ => 0)
  case atStart => exact ⟨rfl, rfl⟩
  case round =>
    obtain ⟨rfl, rfl⟩ := hrel
    go_wp2
    go_end0
    exact ⟨rfl, hb1⟩
/-- lead, of any orders that the call made. -/
theorem lead_own (w : World) (B : Nat) (v : Value) (l : List I4) (pl : Nat → Nat) (pa : Option Addr) (pc : Nat) (ps : List Int) (hown : OwnC w B v l) (hps : SIs w pa ps) (hpg : ∀ b o, pa = some ⟨b, o, none⟩ → v.ownBlock ≠ some b) (hpl : ∀ i, i < ps.length → ps.getD i 0 = (pl i : Int)) (hk : ∀ x, x ∈ l → 1 ≤ x.1 ∧ x.1 ≤ 18) (h14 : ∀ x, x ∈ l → x.1 = 14 → 0 ≤ x.2.1 ∧ x.2.1 < ps.length) (h15 : ∀ x, x ∈ l → x.1 = 15 → 0 ≤ x.2.2.1 ∧ x.2.2.1 < ps.length) (hl : l.length ≤ 1000000) :
    Calls Tryd.prog 59 #[v, .slice pa ps.length pc] w fun e w' => e = .returned (.tuple #[]) ∧ OwnC w' B v (l.map (ledO pl)) ∧ w.grownBy w' v.ownBlock := by
  rcases hown.2 with ⟨rfl, h0⟩ | ⟨g, cap, cur, rfl, _⟩
  · have hnil : l = [] := List.eq_nil_of_length_eq_zero h0
    subst hnil
    exact (lead_nil w pa ps.length pc).mono fun e w' ⟨h1, h2⟩ => ⟨h1, hown.below h2, ⟨h2.os, h2.tape, h2.output, h2.size, fun k hk _ => h2.block k hk⟩⟩
  · exact lead_any w B g cap l pl pa pc ps hown hps (fun b o e x => hpg b o e (by rw [x]; rfl)) hpl hk h14 h15 hl
end

end Go.Proofs.YtocfocjnnjdcgaaDoor
