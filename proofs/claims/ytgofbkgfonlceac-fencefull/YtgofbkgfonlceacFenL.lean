/-
  Orders anew, as plain functions: what each becomes, where it lies, that it may be; where something may wait.
  All outcomes of a program, by the document: Make.
  What is told of a program with a fence behind each store, and of one without fences that do nothing: plain functions.
-/
import Derived.Test.YtgofbkgfonlceacFenS
import Derived.Test.YtgofbkgfonlceacInProg
import Derived.Test.YtgofbkgfonlceacZBy2
namespace Go.Proofs.Ytgofbkgfonlceac
section
open Go.RowKit

theorem led_mov (pl : Nat → Nat) (x : I4) : MovO pl x.1 x.2.1 x.2.2.1 x.2.2.2 (nth4 (ledO pl x) 0) (nth4 (ledO pl x) 1) (nth4 (ledO pl x) 2) (nth4 (ledO pl x) 3) := ⟨rfl, rfl, rfl, rfl⟩
/-- The new orders as numbers. -/
def lenR (b : Nat → Nat → List I4) (L : Nat → Nat) : Nat → Nat := fun t => (codeR (b t) (L t)).length
def numR (b : Nat → Nat → List I4) (L : Nat → Nat) : Nat → Nat → Nat → Int := fun t i q => nth4 ((codeR (b t) (L t)).getD i fenceI) q
def bFull (X : Nat → Nat → Nat → Int) : Nat → Nat → List I4 := fun t i => bWith (wtO (X t i 0)) (ordAt X t i)
theorem full_rel (n : Nat) (L : Nat → Nat) (X : Nat → Nat → Nat → Int) : FullR n L X (lenR (bFull X) L) (numR (bFull X) L) (fun t => plR (bFull X t)) := by
  have h1 : ∀ t i, 0 < (bFull X t i).length := fun t i => by unfold bFull bWith; split <;> simp
  have h2 : ∀ t i d, (bFull X t i).getD 0 d = ordAt X t i := fun t i d => by unfold bFull bWith; split <;> rfl
  have hlt : ∀ t i, i < L t → plR (bFull X t) i + (bFull X t i).length ≤ lenR (bFull X) L t := fun t i hi => by
    unfold lenR
    rw [code_len]
    exact pl_mono (b := bFull X t) (i := i + 1) (by omega)
  refine ⟨fun t _ => rfl, fun t _ => (code_len _).symm, fun t i _ hi => ?_, fun t i _ hi => ?_, fun t i _ hi hw => ?_, fun t i _ hi hw => ?_⟩
  · have := hlt t i hi
    have := h1 t i
    omega
  · have := code_at (b := bFull X t) (k := 0) (h1 t i) hi fenceI
    rw [h2, Nat.add_zero] at this
    unfold numR
    rw [this]
    exact led_mov _ (ordAt X t i)
  · show plR _ _ + _ = _
    unfold bFull bWith
    rw [hw]
    rfl
  · have hl : (bFull X t i).length = 2 := by unfold bFull bWith; rw [hw]; rfl
    refine ⟨?_, ?_, ?_⟩
    · show plR _ _ + _ = _
      rw [hl]
    · have := hlt t i hi
      omega
    · have := code_at (b := bFull X t) (k := 1) (by omega) hi fenceI
      unfold numR
      rw [this]
      unfold bFull bWith
      rw [hw]
      rfl
/-- New orders may be, where the old ones may. -/
theorem led_ok {rg m lk sz : Nat} {pl : Nat → Nat} {x : I4} (h : ordE rg m lk sz x.1 x.2.1 x.2.2.1 x.2.2.2 = 0) {sz' : Nat} (hp : ∀ a, a ≤ sz → pl a ≤ sz') : ordE rg m lk sz' (ledO pl x).1 (ledO pl x).2.1 (ledO pl x).2.2.1 (ledO pl x).2.2.2 = 0 := by
  obtain ⟨op, a, b, c⟩ := x
  show ordE rg m lk sz' op (if op = 14 then _ else _) (if op = 15 then _ else _) c = 0
  simp only at h
  have ho := ok_op h
  by_cases h14 : op = 14
  · subst h14
    have h1 := ok_three (op := 14) rfl h
    have h2 := okN_place h1.1
    have h3 := hp a.toNat (by omega)
    unfold ordE
    simp only [kd, Int.reduceEq, ↓reduceIte]
    have h4 : okN rg m lk sz' 4 (pl a.toNat : Int) = true := by
      unfold okN lim
      simp
      omega
    rw [h4]
    have h5 : okN rg m lk sz' 0 b = true := h1.2.1
    have h6 : okN rg m lk sz' 0 c = true := h1.2.2
    rw [h5, h6]
    rfl
  · by_cases h15 : op = 15
    · subst h15
      have h1 := ok_three (op := 15) rfl h
      have h2 := okN_place h1.2.1
      have h3 := hp b.toNat (by omega)
      unfold ordE
      simp only [kd, Int.reduceEq, ↓reduceIte]
      have h4 : okN rg m lk sz' 4 (pl b.toNat : Int) = true := by
        unfold okN lim
        simp
        omega
      rw [h4]
      have h5 : okN rg m lk sz' 1 a = true := h1.1
      have h6 : okN rg m lk sz' 0 c = true := h1.2.2
      rw [h5, h6]
      rfl
    · rw [if_neg h14, if_neg h15]
      rcases op_cases op with e | rfl | rfl | rfl | rfl | rfl | rfl | rfl | rfl | rfl | rfl | rfl | rfl | rfl | rfl | rfl | rfl | rfl | rfl
      · omega
      all_goals first
        | exact absurd rfl h14
        | exact absurd rfl h15
        | exact h
theorem new_ok {n m lk rg : Nat} {L : Nat → Nat} {X : Nat → Nat → Nat → Int} (hc : COk n L X m lk rg) (b : Nat → Nat → List I4) (hb : ∀ t i, t < n → i < L t → ∀ x, x ∈ b t i → x = ordAt X t i ∨ x = fenceI) : ∀ t i, t < n → i < lenR b L t → ordE rg m lk (lenR b L t) (numR b L t i 0) (numR b L t i 1) (numR b L t i 2) (numR b L t i 3) = 0 := by
  intro t j ht hj
  unfold lenR at hj
  rw [code_len] at hj
  obtain ⟨i, k, hi, hk, rfl⟩ := raw_find hj
  have h1 := code_at hk hi fenceI
  have hx : (b t i).getD k fenceI ∈ b t i := by
    rw [List.getD_eq_getElem?_getD, List.getElem?_eq_getElem hk]
    exact List.getElem_mem hk
  unfold numR
  rw [h1]
  refine led_ok (sz := L t) (x := (b t i).getD k fenceI) ?_ (fun a ha => by unfold lenR; rw [code_len]; exact pl_mono ha)
  rcases hb t i ht hi _ hx with e | e
  · rw [e]; exact hc.ord t i ht hi
  · rw [e]; rfl
/-- The first thread that is too long. -/
def longR (L : Nat → Nat) (t : Nat) : Option (Int × Int) := if 400 < L t then some (1, 0) else none
theorem bad_all {E : Nat → Int} : ∀ (f k : Nat), (∀ i, k ≤ i → i < k + f → E i = 0) → firstBad E f k = none
  | 0, _, _ => rfl
  | f + 1, k, h => by
    rw [firstBad, if_pos (h k (by omega) (by omega))]
    exact bad_all f (k + 1) (fun i h1 h2 => h i (by omega) (by omega))
theorem first_congr {R S : Nat → Option (Int × Int)} : ∀ (f k : Nat), (∀ i, k ≤ i → i < k + f → R i = S i) → firstThread R f k = firstThread S f k
  | 0, _, _ => rfl
  | f + 1, k, h => by
    rw [firstThread, firstThread, h k (by omega) (by omega)]
    rw [first_congr f (k + 1) (fun i h1 h2 => h i (by omega) (by omega))]
/-- All that can be wrong with new orders is that there are too many. -/
theorem new_chk {n m lk rg : Nat} {L : Nat → Nat} {X : Nat → Nat → Nat → Int} (hc : COk n L X m lk rg) (hn : 0 < n) (b : Nat → Nat → List I4) (hb : ∀ t i, t < n → i < L t → ∀ x, x ∈ b t i → x = ordAt X t i ∨ x = fenceI) : chk n (lenR b L) (numR b L) m lk rg = firstThread (longR (lenR b L)) n 0 := by
  have h0 : sizesE n m lk rg = 0 := by
    have h1 := hc.n4
    have h2 := hc.m64
    have h3 := hc.lk4
    have h4 := hc.rg0
    have h5 := hc.rg2
    unfold sizesE
    rw [if_neg (by omega), if_neg (by omega)]
  unfold chk
  rw [h0, if_neg (by simp)]
  refine first_congr n 0 fun t _ ht => ?_
  have htn : t < n := by omega
  unfold thr longR
  by_cases e : 400 < lenR b L t
  · rw [if_pos e, if_pos e]
  · rw [if_neg e, if_neg e]
    exact bad_all _ _ fun i _ hi => new_ok hc b hb t i htn (by omega)
theorem long_none {L : Nat → Nat} : ∀ (f k : Nat), (∀ i, k ≤ i → i < k + f → L i ≤ 400) → firstThread (longR L) f k = (0, 0, 0)
  | 0, _, _ => rfl
  | f + 1, k, h => by
    rw [firstThread]
    have : longR L k = none := by unfold longR; rw [if_neg (by have := h k (by omega) (by omega); omega)]
    rw [this]
    exact long_none f (k + 1) (fun i h1 h2 => h i (by omega) (by omega))
theorem long_cases {L : Nat → Nat} : ∀ (f k : Nat), (firstThread (longR L) f k = (0, 0, 0) ∧ ∀ i, k ≤ i → i < k + f → L i ≤ 400) ∨ ∃ t, k ≤ t ∧ t < k + f ∧ firstThread (longR L) f k = (1, (t : Int), 0) ∧ 400 < L t ∧ ∀ i, k ≤ i → i < t → L i ≤ 400
  | 0, k => Or.inl ⟨rfl, fun i h1 h2 => absurd h2 (by omega)⟩
  | f + 1, k => by
    by_cases e : 400 < L k
    · refine Or.inr ⟨k, by omega, by omega, ?_, e, fun i h1 h2 => absurd h2 (by omega)⟩
      rw [firstThread]
      unfold longR
      rw [if_pos e]
    · have hk : longR L k = none := by unfold longR; rw [if_neg e]
      rw [firstThread, hk]
      simp only
      rcases long_cases f (k + 1) with ⟨h1, h2⟩ | ⟨t, h1, h2, h3, h4, h5⟩
      · refine Or.inl ⟨h1, fun i h3 h4 => ?_⟩
        by_cases e2 : i = k
        · rw [e2]; omega
        · exact h2 i (by omega) (by omega)
      · refine Or.inr ⟨t, by omega, by omega, h3, h4, fun i h6 h7 => ?_⟩
        by_cases e2 : i = k
        · rw [e2]; omega
        · exact h5 i (by omega) h7
theorem new_cok {n m lk rg : Nat} {L : Nat → Nat} {X : Nat → Nat → Nat → Int} (hc : COk n L X m lk rg) (b : Nat → Nat → List I4) (hb : ∀ t i, t < n → i < L t → ∀ x, x ∈ b t i → x = ordAt X t i ∨ x = fenceI) (hl : ∀ t, t < n → lenR b L t ≤ 400) : COk n (lenR b L) (numR b L) m lk rg := ⟨hc.n4, hl, hc.m64, hc.lk4, hc.rg0, hc.rg2, new_ok hc b hb⟩
theorem bFull_in (X : Nat → Nat → Nat → Int) (t i : Nat) (x : I4) (h : x ∈ bFull X t i) : x = ordAt X t i ∨ x = fenceI := by
  unfold bFull bWith at h
  split at h
  · simpa using h
  · exact Or.inl (by simpa using h)
end

section
open Go.RowKit

theorem ens_osin {w : World} {a : Option Addr} {es : List En} (h : EIn w a es) (hok : ∀ x, x ∈ es → EnOk w x) : OsIn w a (es.map En.o) := fun i hi => by
  have hi' : i < es.length := by simpa using hi
  obtain ⟨b, o, h1, h2, h3, h4⟩ := h i hi'
  have hx := hok _ (show es.getD i default ∈ es by rw [List.getD_eq_getElem?_getD, List.getElem?_eq_getElem hi']; exact List.getElem_mem hi')
  rw [map_getD hi']
  exact ⟨b, o, _, _, _, _, h1, h2, h3, h4, hx.ws, hx.pr⟩
theorem ens_obd {w : World} {es : List En} (hn : es.length ≤ 100000) (hok : ∀ x, x ∈ es → EnOk w x) : OBd (es.map En.o) := by
  refine ⟨by simpa using hn, fun o ho => ?_⟩
  obtain ⟨x, hx, rfl⟩ := List.mem_map.mp ho
  exact ⟨(hok x hx).wl, (hok x hx).pl⟩
/-- What Make tells. -/
def MakeQ (w : World) (L : Nat → Nat) (X : Nat → Nat → Nat → Int) (mode : Int) (s0 : Sx) (e : Ending) (w' : World) : Prop :=
  ∃ pb full ea ec l, e = .returned (.pointer (some ⟨pb, 0, none⟩)) ∧ Told (nxX L X mode) (outsX L X mode) s0 4000 full l ∧ w'.cell? ⟨pb, 4, none⟩ = some (.slice ea l.length ec) ∧ w'.cell? ⟨pb, 5, none⟩ = some (.bool full) ∧ OsIn w' ea l ∧ OBd l ∧ Below w.heap.size w w'
/-- What By tells, as Make tells it. -/
theorem by_told (w : World) (ca : Option Addr) (n cc : Nat) (wa : Option Addr) (wc lk rg : Nat) (mode : Int) (words : List Int) (A : Nat → Option Addr) (L C : Nat → Nat) (X : Nat → Nat → Nat → Int) (hw : SIs w wa words) (hn0 : 0 < n) (hc : COk n L X words.length lk rg) (hp : PIn w ca n A L C X) (hm : 0 ≤ mode) :
    Calls Try.prog 33 #[prgV ca n cc wa words.length wc lk rg, .int .i64 mode] w (MakeQ w L X mode (beginX n words lk rg)) := by
  obtain ⟨c, hcd⟩ : ∃ c : Bc, c = ⟨⟨ca, n, cc, wa, words.length, wc, lk, rg, mode⟩, A, L, C, X, words.length, lk, rg, beginX n words lk rg⟩ := ⟨_, rfl⟩
  have hok : BcOk c w := by rw [hcd]; exact ⟨hn0, hc, hp, hm⟩
  refine Calls.mono (by_any w ca n cc wa wc lk rg mode words A L C X c _ hcd rfl hw hok) ?_
  rintro e w' ⟨pb, v, d, ea, ec, es, i, N, rfl, h1, h2, h3⟩
  have ht := (h1.told h3).1
  have hcnt := h1.cnt
  have c4 := h1.sp.c4
  have c5 := h1.sp.c5
  rw [h1.ends] at c4
  have hlow := h1.low
  have hb0 : Below w.heap.size w (w.alloc (boxQ ca n cc wa words.length wc lk rg)) := (Below.refl _ _).alloc (Nat.le_refl _) _
  rw [hcd] at ht
  refine ⟨pb, d.full, ea, ec, es.map En.o, rfl, ht, by rw [List.length_map]; exact c4, c5, ens_osin h1.ein.ein (fun x hx => (h1.eok x hx).ok), ens_obd (w := w') (by omega) (fun x hx => (h1.eok x hx).ok), hb0.trans (hlow.mono (by simp))⟩
set_option maxRecDepth 100000 in
set_option maxHeartbeats 800000 in
/-- Make. -/
theorem make_any (w : World) (b : Bool) (ca : Option Addr) (n cc : Nat) (wa : Option Addr) (wc lk rg : Nat) (words : List Int) (A : Nat → Option Addr) (L C : Nat → Nat) (X : Nat → Nat → Nat → Int) (hw : SIs w wa words) (hn0 : 0 < n) (hc : COk n L X words.length lk rg) (hp : PIn w ca n A L C X) :
    Calls Try.prog 16 #[prgV ca n cc wa words.length wc lk rg, .bool b] w (MakeQ w L X (if b then 1 else 0) (beginX n words lk rg)) := by
  have HBY : Hid (∀ V mode, 0 ≤ mode → Below w.heap.size w V → Calls Try.prog 33 #[prgV ca n cc wa words.length wc lk rg, .int .i64 mode] V (MakeQ V L X mode (beginX n words lk rg))) := fun V mode hm hb => by
    exact by_told V ca n cc wa wc lk rg mode words A L C X (hw.below hb) hn0 hc (hp.below hb) hm
  have HUP : Hid (∀ V mode e w', Below w.heap.size w V → MakeQ V L X mode (beginX n words lk rg) e w' → MakeQ w L X mode (beginX n words lk rg) e w') := fun V mode e w' hb ⟨pb, full, ea, ec, l, h1, h2, h3, h4, h5, h6, h7⟩ => ⟨pb, full, ea, ec, l, h1, h2, h3, h4, h5, h6, hb.trans (h7.mono hb.size)⟩
  obtain ⟨q, hq⟩ : ∃ q : Sx, beginX n words lk rg = q := ⟨_, rfl⟩
  obtain ⟨m, hm⟩ : ∃ m, words.length = m := ⟨_, rfl⟩
  rw [hq, hm] at HBY ⊢
  rw [hq] at HUP
  have HBB : Hid (∀ o, Below w.heap.size w (w.alloc o)) := fun o => (Below.refl _ _).alloc (Nat.le_refl _) _
  clear hw hn0 hc hp hq hm
  cases b with
  | true =>
    go_enter Try.func16, Try.ntmps16
    go_wp2_with fail
    refine Calls.mono (HBY.out _ 1 (by decide) (HBB.out _)) ?_
    intro e w1 h1
    have h2 := HUP.out _ _ _ _ (HBB.out _) h1
    obtain ⟨pb, full, ea, ec, l, rfl, h3⟩ := h2
    have H3 := Hid.out (p := Hid _) h3
    clear h1 h3
    go_wp2_with fail
    go_ret
    exact ⟨pb, full, ea, ec, l, rfl, H3.out⟩
  | false =>
    go_enter Try.func16, Try.ntmps16
    go_wp2_with fail
    refine Calls.mono (HBY.out _ 0 (by decide) (HBB.out _)) ?_
    intro e w1 h1
    have h2 := HUP.out _ _ _ _ (HBB.out _) h1
    obtain ⟨pb, full, ea, ec, l, rfl, h3⟩ := h2
    have H3 := Hid.out (p := Hid _) h3
    clear h1 h3
    go_wp2_with fail
    go_ret
    exact ⟨pb, full, ea, ec, l, rfl, H3.out⟩
end

section
open Go.RowKit

theorem begin_bare (n : Nat) (words : List Int) (lk rg : Int) (t : Nat) (ht : t < n) : (thOf (beginX n words lk rg) t).wait = [] ∧ (thOf (beginX n words lk rg) t).pc = 0 := by
  unfold thOf beginX
  simp [List.getD, ht]
/-- The outcomes of the fenced program with stores that wait are those of the plain one without. -/
theorem full_same {n : Nat} {L : Nat → Nat} {X : Nat → Nat → Nat → Int} {words : List Int} {lk rg : Nat} {a b : List Oc} {mx : Nat} (hc : COk n L X words.length lk rg) (ha : Told (nxX L X 0) (outsX L X 0) (beginX n words lk rg) mx false a) (hb : Told (nxX (lenR (bFull X) L) (numR (bFull X) L) 1) (outsX (lenR (bFull X) L) (numR (bFull X) L) 1) (beginX n words lk rg) mx false b) : a = b := by
  rcases ha with ⟨e, _⟩ | ⟨_, sa, ma, _⟩
  · cases e
  rcases hb with ⟨e, _⟩ | ⟨_, sb, mb, _⟩
  · cases e
  refine sorted_same sa sb fun o => ?_
  rw [ma, mb]
  constructor
  · rintro ⟨s, h1, h2⟩
    exact full_back (full_rel n L X) (by decide) hc begin_ok rfl (begin_bare n words lk rg) h1 h2
  · rintro ⟨s, h1, h2⟩
    exact full_out (full_rel n L X) (by decide) hc begin_ok rfl (begin_bare n words lk rg) h1 h2
end

end Go.Proofs.Ytgofbkgfonlceac
