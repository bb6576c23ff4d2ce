/-
  Find of a program, by the program.
-/
import Derived.Test.YtgofbkgfonlceacGreatDoorRcSort
import Derived.Test.YtgofbkgfonlceacGreatDoorRcLink
import Derived.Test.YtgofbkgfonlceacGreatDoorOcSC
namespace Go.Proofs.YtgofbkgfonlceacGreatDoor
open Go.RowKit Go.Sort Go.Shelf

/-- How many states there are, without their outcomes. -/
theorem df_count {L : Nat → Nat} {X : Nat → Nat → Nat → Int} {s0 : Sx} {K Z F : List Sx} (h : Df L X 0 s0 K Z Z [] F) (hk : K.length ≤ 4000) : Told (nxX L X 0) (fun _ => []) s0 4000 false [] :=
  Or.inr ⟨rfl, List.Pairwise.nil, fun o => ⟨fun h => (by cases h), fun ⟨_, _, h⟩ => (by cases h)⟩, K, h.nodup, fun s => by rw [h.split s, ← h.whole s]; simp, hk⟩
theorem df_many {L : Nat → Nat} {X : Nat → Nat → Nat → Int} {s0 : Sx} {K P Z O F : List Sx} (h : Df L X 0 s0 K P Z O F) (hk : 4000 < K.length) : Told (nxX L X 0) (fun _ => []) s0 4000 true [] := Or.inl ⟨rfl, K, h.nodup, h.reach, hk⟩
/-- What Find's walk leaves. -/
def RwQ (V : World) (L : Nat → Nat) (X : Nat → Nat → Nat → Int) (s0 : Sx) (ok : Bool) (W' : World) : Prop :=
  Below V.heap.size V W' ∧ W'.heap[V.heap.size + 1]? = some (.cells #[.map (some V.heap.size)] 53) ∧ Told (nxX L X 0) (fun _ => []) s0 4000 (!ok) [] ∧ (ok = true → SetC W' V.heap.size 80000 (fun c => ∃ s, Rch (nxX L X 0) s0 s ∧ ClsX L X s c))
theorem rwalk_any (V V1 w0 w2 : World) (ca : Option Addr) (n lk rg mb sb : Nat) (v : Rp → Value) (words : List Int) (A : Nat → Option Addr) (L C : Nat → Nat) (X : Nat → Nat → Nat → Int) (hn0 : 0 < n) (hc : COk n L X words.length lk rg) (hfit : ∀ t i, t < n → i < L t → I64n (X t i 2)) (hwf : ∀ x, x ∈ words → I64n x) (hp : PIn V ca n A L C X) (htab : TabB V.heap.size V) (hV1 : V1 = (V.alloc (.map #[] 0)).alloc (.cells #[.map (some V.heap.size)] 53)) (hb2 : Below V1.heap.size V1 w2) (hq : QSt w2 w0.heap.size ⟨A, L, C, plainK, 0, n⟩ sb mb v (beginX n words lk rg)) :
    Calls Tryz.prog 20 #[.pointer (some ⟨sb, 0, none⟩), .func (.func 16) #[] #[.pointer (some ⟨V.heap.size + 1, 0, none⟩)], .func (.func 19) #[] #[]] w2 fun e W' => ∃ ok : Bool, e = .returned (.bool ok) ∧ Hid (RwQ V L X (beginX n words lk rg) ok W') := by
  have hs1 : V1.heap.size = V.heap.size + 1 + 1 := by rw [hV1]; simp
  have hbV : Below V.heap.size V V1 := by rw [hV1]; exact ((Below.refl _ _).alloc (Nat.le_refl _) _).alloc (by simp) _
  have hm1 : V1.heap[V.heap.size]? = some (.map #[] 0) := by rw [hV1]; exact box_later (heap_alloc_new _ _) _
  have hf1 : V1.heap[V.heap.size + 1]? = some (.cells #[.map (some V.heap.size)] 53) := by
    have := heap_alloc_new (V.alloc (.map #[] 0)) (.cells #[.map (some V.heap.size)] 53)
    rw [World.size_alloc] at this
    rw [hV1]; exact this
  have hs2 : V1.heap.size ≤ w2.heap.size := hb2.size
  have hbw : Below V.heap.size V w2 := hbV.trans (hb2.mono hbV.size)
  obtain ⟨c, hcd⟩ : ∃ c : Wc, c = ⟨⟨A, L, C, plainK, 0, n⟩, ca, X, n, words.length, lk, rg, beginX n words lk rg, V.heap.size, V, 185, 178, w2.heap.size, w2.heap.size + 1, w2.heap.size + 1 + 1 + 1, w2.heap.size + 1 + 1⟩ := ⟨_, rfl⟩
  have hok : WcOk c := by
    rw [hcd]
    exact ⟨plain_law, plain_tell, plain_clone, plain_kind.ty, rfl, hn0, hc, hfit, hp, htab, rfl, by show V.heap.size ≤ w2.heap.size; omega, by show V.heap.size ≤ w2.heap.size + 1; omega, by show V.heap.size ≤ w2.heap.size + 1 + 1 + 1; omega, by show V.heap.size ≤ w2.heap.size + 1 + 1; omega⟩
  have hO := obs_race c hok (V.heap.size + 1) V.heap.size (by rw [hcd]; show V.heap.size ≠ w2.heap.size; omega) (by rw [hcd]; exact Nat.le_refl _)
  have hs0 : StP c 0 c.s0 := by
    rw [hcd]
    exact ⟨begin_ok, rfl, LkI.begin, VOk.begin hwf, by simp [beginX]⟩
  have hob : ∀ U, Below w2.heap.size w2 U → w2.heap.size < U.heap.size → ObC c (V.heap.size + 1) V.heap.size U [] [] := fun U hbU hlt => by
    have e0 : U.heap[V.heap.size]? = some (.map #[] 0) := by rw [hbU.block _ (by omega), hb2.block _ (by omega)]; exact hm1
    have e1 : U.heap[V.heap.size + 1]? = some (.cells #[.map (some V.heap.size)] 53) := by rw [hbU.block _ (by omega), hb2.block _ (by omega)]; exact hf1
    refine ⟨e1, ⟨0, .map [], Nat.le_refl _, ?_, fun l => ?_⟩, fun c h => ?_, fun c h => ?_⟩
    · have h0 := World.ownsMap_made (H := Unit) V Tryz.prog 97 (unitElem (H := Unit))
      refine ownsMap_kept h0 ?_
      rw [e0, heap_alloc_new]
    · constructor
      · intro h; simp [Maps.has] at h
      · rintro ⟨_, ⟨_, h, _⟩, _⟩; cases h
    · obtain ⟨_, h, _⟩ := h; cases h
    · obtain ⟨_, h, _⟩ := h; cases h
  have hq' : QSt w2 0 (c.Q.at 0) sb mb v c.s0 := by rw [hcd]; exact hq.zero
  have h := walk_any c hok (NF V.heap.size c.km) (ObC c (V.heap.size + 1) V.heap.size) _ _ _ _ hO w2 (by rw [hcd]) (by rw [hcd]) (by rw [hcd]) (by rw [hcd]) (by rw [hcd]; exact hbw) sb mb 0 v hq' hs0 hob
  refine Calls.mono h ?_
  rintro e W' ⟨K, Z, O, F, os, he, hwl, hO0⟩
  have hlow := hwl.wk.low
  have hdf := hwl.df
  have hob' := hwl.ob
  have hkl := hwl.kl
  unfold ObC at hob'
  rw [hcd] at hlow hdf hob'
  have hdf2 : Df L X 0 (beginX n words lk rg) K Z Z O F := hdf
  refine ⟨decide (K.length ≤ 4000), he, hlow, hob'.1, ?_, fun ht => ?_⟩
  · by_cases hk : K.length ≤ 4000
    · rw [decide_eq_true hk]
      rw [hO0 hk] at hdf2
      exact df_count hdf2 hk
    · rw [decide_eq_false hk]
      exact df_many hdf2 (by omega)
  · have hk := of_decide_eq_true ht
    rw [hO0 hk] at hdf2
    have hl := hdf2.len
    refine hob'.2.more (by simp at hl; omega) fun x => ?_
    constructor
    · rintro ⟨s, h1, h2⟩; exact ⟨s, (hdf2.whole s).1 h1, h2⟩
    · rintro ⟨s, h1, h2⟩; exact ⟨s, (hdf2.whole s).2 h1, h2⟩
/-- What Find tells of a program that passed Check. -/
def FndQ (w : World) (L : Nat → Nat) (X : Nat → Nat → Nat → Int) (s0 : Sx) (e : Ending) (w' : World) : Prop :=
  ∃ (full : Bool) (a : Option Addr) (cap : Nat) (l : List (List Int)), e = .returned (.tuple #[.slice a l.length cap, ints3 (if full then 10 else 0) 0 0]) ∧ Told (nxX L X 0) (fun _ => []) s0 4000 full [] ∧ IsC w' w.heap.size a l.length cap l ∧ (full = true → l = []) ∧ (full = false → ToldC L X s0 l) ∧ Below w.heap.size w w'
set_option maxRecDepth 100000 in
set_option maxHeartbeats 1600000 in
/-- Find of a program that Check turns away. -/
theorem find_no (w : World) (ca : Option Addr) (n cc : Nat) (wa : Option Addr) (m wc : Nat) (lk rg : Int) (A : Nat → Option Addr) (L C : Nat → Nat) (X : Nat → Nat → Nat → Int) (x y z : Int) (HR : Hid (chk n L X m lk rg = (x, y, z))) (hx : (x != 0) = true) (hp : PIn w ca n A L C X) :
    Calls Tryz.prog 7 #[prgV ca n cc wa m wc lk rg] w fun e w' => e = .returned (.tuple #[nilV, ints3 x y z]) ∧ Below w.heap.size w w' := by
  have HCHK : Hid (∀ W, Below w.heap.size w W → Calls Tryz.prog 15 #[prgV ca n cc wa m wc lk rg] W fun e w' => e = .returned (ints3 x y z) ∧ Below W.heap.size W w') := fun W hb => check_any ca n cc wa m wc lk rg A L C X x y z HR W (hp.below hb)
  clear HR hp
  go_enter Tryz.func7, Tryz.ntmps7
  go_wp2_with fail
  refine Calls.mono (HCHK.out _ (((Below.refl _ _).alloc (Nat.le_refl _) _).alloc (by simp) _)) ?_
  rintro e w1 ⟨rfl, hb1⟩
  have hs1 := hb1.size
  simp only [World.size_alloc] at hs1
  have HB1 : Below w.heap.size w w1 := (((Below.refl _ _).alloc (Nat.le_refl _) _).alloc (by simp) _).trans (hb1.mono (by simp; omega))
  have hF : w1.heap[w.heap.size + 1]? = some (.cells #[.int .i64 0, .int .i64 0, .int .i64 0] 30) := by
    refine (hb1.block _ (by simp)).trans ?_
    have := heap_alloc_new (w.alloc (.cells #[.slice ca n cc, .slice wa m wc, .int .i64 lk, .int .i64 rg] 25)) (.cells #[.int .i64 0, .int .i64 0, .int .i64 0] 30)
    rwa [World.size_alloc] at this
  have u0 : ∀ o, (w1.alloc o).cell? ⟨w.heap.size + 1, 0, none⟩ = some (.int .i64 0) := fun o => box_cell (box_later hF o) rfl
  have u1 : ∀ o, (w1.alloc o).cell? ⟨w.heap.size + 1, 1, none⟩ = some (.int .i64 0) := fun o => box_cell (box_later hF o) rfl
  have u2 : ∀ o, (w1.alloc o).cell? ⟨w.heap.size + 1, 2, none⟩ = some (.int .i64 0) := fun o => box_cell (box_later hF o) rfl
  have uf : ∀ o i, (w1.alloc o).frozen? ⟨w.heap.size + 1, i, none⟩ = false := fun o i => box_free (box_later hF o)
  have n1 : w1.heap.size ≠ w.heap.size + 1 := by omega
  have n3 : w.heap.size + 1 ≠ w1.heap.size := by omega
  have hB : Below w.heap.size w (w1.alloc (.cells #[.int .i64 x, .int .i64 y, .int .i64 z] 30)) := HB1.alloc HB1.size _
  have HBB := Hid.out (p := Hid _) hB
  clear hb1 hF HCHK HB1 hB
  go_wp2_with fail
  go_region
  all_goals go_wp2
  all_goals refine bodyPost_ret (v := .tuple #[nilV, ints3 x y z]) (by simp [results, Tryz.results7, go_sem, cell_set, u0, u1, u2]) rfl ⟨rfl, ?_⟩
  all_goals exact ((HBB.out.drew.setCell (Nat.le_succ _) _).setCell (Nat.le_succ _) _).setCell (Nat.le_succ _) _
set_option maxRecDepth 100000 in
set_option maxHeartbeats 6400000 in
/-- Find of a program that passed Check. -/
theorem find_yes (w : World) (ca : Option Addr) (n cc : Nat) (wa : Option Addr) (wc lk rg : Nat) (words : List Int) (A : Nat → Option Addr) (L C : Nat → Nat) (X : Nat → Nat → Nat → Int) (HR : Hid (chk n L X words.length lk rg = (0, 0, 0))) (hp : PIn w ca n A L C X) (hc : COk n L X words.length lk rg) (hn0 : 0 < n) (hw : SIs w wa words) (hnil : wa = none → words = [] ∧ wc = 0) (hfit : ∀ t i, t < n → i < L t → I64n (X t i 2)) (hwf : ∀ x, x ∈ words → I64n x) (htab : TabB w.heap.size w) :
    Calls Tryz.prog 7 #[prgV ca n cc wa words.length wc lk rg] w (FndQ w L X (beginX n words lk rg)) := by
  have HCHK : Hid (∀ W, Below w.heap.size w W → Calls Tryz.prog 15 #[prgV ca n cc wa words.length wc lk rg] W fun e w' => e = .returned (ints3 0 0 0) ∧ Below W.heap.size W w') := fun W hb => check_any ca n cc wa words.length wc lk rg A L C X 0 0 0 HR W (hp.below hb)
  have HNEW : Hid (∀ W, Below w.heap.size w W → Calls Tryz.prog 22 #[prgV ca n cc wa words.length wc lk rg] W fun e w' => ∃ mb wv ov, e = .returned (.pointer (some ⟨mb, 0, none⟩)) ∧ Mem0 W w' mb wv ov words lk) := fun W hb => newPlain_any W ca n cc wa wc lk rg words (hw.below hb) hnil hc.m64 hc.lk4
  have HBEG : Hid (∀ W w' V mb wv ov, Below w.heap.size w W → Mem0 W w' mb wv ov words lk → Below w'.heap.size w' V → Calls Tryz.prog 21 #[prgV ca n cc wa words.length wc lk rg, .iface 61 (.pointer (some ⟨mb, 0, none⟩))] V fun e w2 => ∃ sb v, e = .returned (.pointer (some ⟨sb, 0, none⟩)) ∧ QSt w2 W.heap.size ⟨A, L, C, plainK, 0, n⟩ sb mb v (beginX n words lk rg) ∧ Below V.heap.size V w2) := fun W w' V mb wv ov hb hm hbV => by
    have hb2 : Below w.heap.size w w' := hb.trans (hm.below.mono hb.size)
    have hb3 : Below w.heap.size w V := hb2.trans (hbV.mono hb2.size)
    have hq : MemQ ⟨A, L, C, plainK, 0, n⟩ W w' mb (m0V mb wv ov) words lk := hm.q rfl
    refine Calls.mono (pbegin_any W V ca n cc wa wc lk rg mb (m0V mb wv ov) words ⟨A, L, C, plainK, 0, n⟩ X (hq.up hbV) (hp.below hb3) hc.n4 hc.rg0 hc.rg2) ?_
    rintro e w2 ⟨sb, v, he, _, h1, h2⟩
    exact ⟨sb, v, he, h1, h2⟩
  have HWALK : Hid (∀ V (w0 w2 : World) mb sb v, Below w.heap.size w V → Below (V.heap.size + 1 + 1) ((V.alloc (.map #[] 0)).alloc (.cells #[.map (some V.heap.size)] 53)) w2 → QSt w2 w0.heap.size ⟨A, L, C, plainK, 0, n⟩ sb mb v (beginX n words lk rg) → Calls Tryz.prog 20 #[.pointer (some ⟨sb, 0, none⟩), .func (.func 16) #[] #[.pointer (some ⟨V.heap.size + 1, 0, none⟩)], .func (.func 19) #[] #[]] w2 fun e W' => ∃ ok : Bool, e = .returned (.bool ok) ∧ Hid (RwQ V L X (beginX n words lk rg) ok W')) := fun V w0 w2 mb sb v h1 h2 h3 => rwalk_any V _ w0 w2 ca n lk rg mb sb v words A L C X hn0 hc hfit hwf (hp.below h1) (htab.up h1) rfl (by simpa using h2) h3
  obtain ⟨s0, hs0⟩ : ∃ s0, beginX n words lk rg = s0 := ⟨_, rfl⟩
  rw [hs0] at HBEG HWALK ⊢
  obtain ⟨wl, hwl⟩ : ∃ k, words.length = k := ⟨_, rfl⟩
  rw [hwl] at HCHK HNEW HBEG ⊢
  clear HR hp hc hn0 hw hnil hfit hwf htab hs0 hwl
  obtain ⟨PB, hPB⟩ : ∃ o : Obj, o = .cells #[.slice ca n cc, .slice wa wl wc, .int .i64 (lk : Int), .int .i64 (rg : Int)] 25 := ⟨_, rfl⟩
  obtain ⟨W0, hW0⟩ : ∃ V, V = (w.alloc PB).alloc (.cells #[.int .i64 0, .int .i64 0, .int .i64 0] 30) := ⟨_, rfl⟩
  have hz0 : W0.heap.size = w.heap.size + 1 + 1 := by rw [hW0]; simp
  have hb0 : Below w.heap.size w W0 := by rw [hW0]; exact ((Below.refl _ _).alloc (Nat.le_refl _) _).alloc (by simp) _
  have hp0 : W0.heap[w.heap.size]? = some PB := by rw [hW0]; exact box_later (heap_alloc_new _ _) _
  have hf0 : W0.heap[w.heap.size + 1]? = some (.cells #[.int .i64 0, .int .i64 0, .int .i64 0] 30) := by
    have := heap_alloc_new (w.alloc PB) (.cells #[.int .i64 0, .int .i64 0, .int .i64 0] 30)
    rw [World.size_alloc] at this
    rw [hW0]; exact this
  have HW0 : Hid ((w.alloc (.cells #[.slice ca n cc, .slice wa wl wc, .int .i64 (lk : Int), .int .i64 (rg : Int)] 25)).alloc (.cells #[.int .i64 0, .int .i64 0, .int .i64 0] 30) = W0) := by rw [hW0, hPB]; exact rfl
  have HAT : Hid (∀ V, Below W0.heap.size W0 V → (V.cell? ⟨w.heap.size, 0, none⟩ = some (.slice ca n cc) ∧ V.cell? ⟨w.heap.size, 1, none⟩ = some (.slice wa wl wc) ∧ V.cell? ⟨w.heap.size, 2, none⟩ = some (.int .i64 (lk : Int)) ∧ V.cell? ⟨w.heap.size, 3, none⟩ = some (.int .i64 (rg : Int))) ∧ (V.cell? ⟨w.heap.size + 1, 0, none⟩ = some (.int .i64 0) ∧ V.cell? ⟨w.heap.size + 1, 1, none⟩ = some (.int .i64 0) ∧ V.cell? ⟨w.heap.size + 1, 2, none⟩ = some (.int .i64 0)) ∧ ∀ i, V.frozen? ⟨w.heap.size + 1, i, none⟩ = false) := fun V hb => by
    have e1 := (hb.block w.heap.size (by omega)).trans hp0
    have e2 := (hb.block (w.heap.size + 1) (by omega)).trans hf0
    rw [hPB] at e1
    exact ⟨⟨box_cell e1 rfl, box_cell e1 rfl, box_cell e1 rfl, box_cell e1 rfl⟩, ⟨box_cell e2 rfl, box_cell e2 rfl, box_cell e2 rfl⟩, fun i => box_free e2⟩
  have HB0 := Hid.out (p := Hid _) hb0
  have hmm := @run_makeMap Tryz.prog
  clear hPB hW0 hp0 hf0 hb0
  go_enter Tryz.func7, Tryz.ntmps7
  go_wp2_with fail
  rw [HW0.out]
  refine Calls.mono (HCHK.out _ HB0.out) ?_
  rintro e w1 ⟨rfl, hb1⟩
  obtain ⟨⟨p0, p1, p2, p3⟩, ⟨f0, f1, f2⟩, ff⟩ := HAT.out w1 hb1
  have HB1 := Hid.out (p := Hid _) hb1
  clear HCHK HW0 hb1
  go_wp2_with fail
  obtain ⟨V, hV⟩ : ∃ V, w1.alloc (.cells #[.int .i64 0, .int .i64 0, .int .i64 0] 30) = V := ⟨_, rfl⟩
  have hsV : V.heap.size = w1.heap.size + 1 := by rw [← hV]; simp
  rw [hV]
  have hbV : Below W0.heap.size W0 V := by rw [← hV]; exact HB1.out.alloc HB1.out.size _
  have hwV : Below w.heap.size w V := HB0.out.trans (hbV.mono HB0.out.size)
  have HWK := HWALK.out V
  rw [hsV] at HWK
  obtain ⟨V1, hV1⟩ : ∃ U, (V.alloc (.map #[] 0)).alloc (.cells #[.map (some (w1.heap.size + 1))] 53) = U := ⟨_, rfl⟩
  have hs1 : V1.heap.size = w1.heap.size + 1 + 1 + 1 := by rw [← hV1]; simp [hsV]
  have hb1 : Below V.heap.size V V1 := by rw [← hV1]; exact ((Below.refl _ _).alloc (Nat.le_refl _) _).alloc (by simp) _
  rw [hV1, ← hs1] at HWK
  rw [hV1]
  have HWK2 : Hid (∀ (w0 w2 : World) mb sb v, Below V1.heap.size V1 w2 → QSt w2 w0.heap.size ⟨A, L, C, plainK, 0, n⟩ sb mb v s0 → Calls Tryz.prog 20 #[.pointer (some ⟨sb, 0, none⟩), .func (.func 16) #[] #[.pointer (some ⟨w1.heap.size + 1 + 1, 0, none⟩)], .func (.func 19) #[] #[]] w2 fun e W' => ∃ ok : Bool, e = .returned (.bool ok) ∧ Hid (RwQ V L X s0 ok W')) := fun w0 w2 mb sb v h1 h2 => HWK w0 w2 mb sb v hwV h1 h2
  have HBV : Hid (Below W0.heap.size W0 V1) := hbV.trans (hb1.mono hbV.size)
  have HWV : Hid (Below w.heap.size w V1) := hwV.trans (hb1.mono hwV.size)
  have HVV : Hid (Below W0.heap.size W0 V ∧ Below w.heap.size w V) := ⟨hbV, hwV⟩
  have HSV := Hid.out (p := Hid _) hsV
  clear p0 p1 p2 p3 f0 f1 f2 ff HB1 hV hV1 HWK HWALK hsV hs1 hb1 hbV hwV
  obtain ⟨⟨p0, p1, p2, p3⟩, _, _⟩ := HAT.out V1 HBV.out
  have HFAL : Hid (∀ w5 x y z, RwQ V L X s0 false w5 → FndQ w L X s0 (.returned (.tuple #[nilV, ints3 10 0 0])) (((w5.setCell ⟨w.heap.size + 1, 0, none⟩ x).setCell ⟨w.heap.size + 1, 1, none⟩ y).setCell ⟨w.heap.size + 1, 2, none⟩ z)) := fun w5 x y z h => by
    have hb : Below w.heap.size w w5 := HVV.out.2.trans (h.1.mono HVV.out.2.size)
    exact ⟨true, none, 0, [], rfl, h.2.2.1, IsC.nil _ _, fun _ => rfl, fun h => (by cases h), ((hb.setCell (by show w.heap.size ≤ w.heap.size + 1; omega) _).setCell (by show w.heap.size ≤ w.heap.size + 1; omega) _).setCell (by show w.heap.size ≤ w.heap.size + 1; omega) _⟩
  have HRIS : Hid (∀ w5 U, RwQ V L X s0 true w5 → Below w5.heap.size w5 U → Calls Tryz.prog 23 #[.map (some (w1.heap.size + 1))] U fun e w6 => ∃ a k cap, e = .returned (.slice a k cap) ∧ Hid (Below W0.heap.size W0 w6 ∧ ∀ x y z, FndQ w L X s0 (.returned (.tuple #[.slice a k cap, ints3 0 0 0])) (((w6.setCell ⟨w.heap.size + 1, 0, none⟩ x).setCell ⟨w.heap.size + 1, 1, none⟩ y).setCell ⟨w.heap.size + 1, 2, none⟩ z))) := fun w5 U h hU => by
    have hS := h.2.2.2 rfl
    have hmap : U.heap[V.heap.size]? = w5.heap[V.heap.size]? := by
      obtain ⟨n, D, _, ⟨es, ck, hh, _⟩, _⟩ := hS.own
      exact hU.block _ (box_lt hh)
    have hr := rising_any U V.heap.size 80000 _ (hS.fr hmap) (Nat.le_refl _)
    rw [HSV.out] at hr
    refine Calls.mono hr ?_
    rintro e w6 ⟨a, cap, l, he, h1, h2, h3, h4⟩
    have hVU : Below V.heap.size V U := h.1.trans (hU.mono h.1.size)
    have hV6 : Below V.heap.size V w6 := hVU.trans (h4.mono hVU.size)
    have hb : Below w.heap.size w w6 := HVV.out.2.trans (hV6.mono HVV.out.2.size)
    have hWV := HVV.out.1.size
    refine ⟨a, l.length, cap, he, HVV.out.1.trans (hV6.mono hWV), fun x y z => ⟨false, a, cap, l, rfl, h.2.2.1, ⟨rfl, h1.five, own_low (fam_keeps h1.own (fun g hg => ?_)) (by have := hVU.size; omega)⟩, fun h => (by cases h), fun _ => ⟨h2, h3⟩, ((hb.setCell (by show w.heap.size ≤ w.heap.size + 1; omega) _).setCell (by show w.heap.size ≤ w.heap.size + 1; omega) _).setCell (by show w.heap.size ≤ w.heap.size + 1; omega) _⟩⟩
    have hne : g ≠ w.heap.size + 1 := by
      have := (h1.own.lt g hg).1
      have := hVU.size
      omega
    rw [Below.heap_setCell _ _ _ _ hne, Below.heap_setCell _ _ _ _ hne, Below.heap_setCell _ _ _ _ hne]
  obtain ⟨s1, hs1⟩ : ∃ k, w1.heap.size = k := ⟨_, rfl⟩
  rw [hs1] at HSV HWK2 HRIS ⊢
  clear hs1
  go_region_with (first | (go_at_call 22; refine Calls.mono (HNEW.out _ HWV.out.drew) ?_; rintro e w3 ⟨mb, wv, ov, rfl, hm⟩; have hb3 : Below W0.heap.size W0 w3 := HBV.out.drew.trans (hm.below.mono HBV.out.size); obtain ⟨⟨q0, q1, q2, q3⟩, _, _⟩ := HAT.out w3 hb3; have HM := Hid.out (p := Hid _) hm; clear hm hb3) | (go_at_call 21; refine Calls.mono (HBEG.out _ w3 w3 mb wv ov HWV.out.drew HM.out (Below.refl _ _)) ?_; rintro e w4 ⟨sb, v, rfl, hq4, hb4⟩; have HQ4 := Hid.out (p := Hid _) (And.intro hq4 hb4); clear hq4 hb4) | (go_at_call 20; refine Calls.mono (HWK2.out _ w4 mb sb v ((Below.refl V1.heap.size V1).drew.trans ((HM.out.below.trans (HQ4.out.2.mono HM.out.below.size)))) HQ4.out.1) ?_; rintro e w5 ⟨ok, rfl, HQ⟩))
  all_goals have hb5 : Below W0.heap.size W0 w5 := HVV.out.1.trans (HQ.out.1.mono HVV.out.1.size)
  all_goals obtain ⟨_, ⟨f0, f1, f2⟩, ff⟩ := HAT.out w5 hb5
  all_goals have m5 : w5.cell? ⟨s1 + 1 + 1, 0, none⟩ = some (.map (some (s1 + 1))) := by have h := HQ.out.2.1; rw [HSV.out] at h; exact box_cell h rfl
  all_goals clear HNEW HBEG HWK2 p0 p1 p2 p3 q0 q1 q2 q3 HM HQ4 hb5
  all_goals cases ok with
    | false =>
      clear HRIS m5
      go_wp2_with fail
      exact bodyPost_ret (v := .tuple #[nilV, ints3 10 0 0]) (by simp [results, Tryz.results7, go_sem, cell_set, f0, f1, f2]) rfl (HFAL.out w5 _ _ _ HQ.out)
    | true =>
      clear HFAL
      go_wp2_with fail
      refine Calls.mono (HRIS.out w5 w5 HQ.out (Below.refl _ _)) ?_
      rintro e w6 ⟨a6, k6, c6, rfl, H6⟩
      clear f0 f1 f2 ff m5
      obtain ⟨_, ⟨f0, f1, f2⟩, ff⟩ := HAT.out w6 H6.out.1
      clear HRIS HQ
      go_wp2_with fail
      exact bodyPost_ret (v := .tuple #[.slice a6 k6 c6, ints3 0 0 0]) (by simp [results, Tryz.results7, go_sem, cell_set, f0, f1, f2]) rfl (H6.out.2 _ _ _)

end Go.Proofs.YtgofbkgfonlceacGreatDoor
