/-
  A fence behind each order that lets something wait, by the program.
  All outcomes of a program, by the document: Make.
  What is told of a program with a fence behind each store, and of one without fences that do nothing: plain functions.
  The document's Check as one contract.
  The law of programs with a fence behind each store.
-/
import Derived.Test.YtgofbkgfonlceacFenL
import Derived.Test.YtgofbkgfonlceacCheckA
import Derived.Test.YtgofbkgfonlceacZBy2
import Derived.Test.YtgofbkgfonlceacCheckR2
import Derived.Test.YtgofbkgfonlceacOrder
import Derived.Test.YtgofbkgfonlceacSOk
import Derived.Deep.RegionHeld3
namespace Go.Proofs.Ytgofbkgfonlceac
section
open Go.RowKit

abbrev noP : Value := .agg #[nilV, nilV, .int .i64 0, .int .i64 0]
/-- Three boxes that a call makes first. -/
theorem box3 (w : World) (P R F : Obj) : ∃ W, ((w.alloc P).alloc R).alloc F = W ∧ w.heap.size + 3 = W.heap.size ∧ ∀ V, Below W.heap.size W V → Below w.heap.size w V ∧ V.heap[w.heap.size]? = some P ∧ V.heap[w.heap.size + 1]? = some R ∧ V.heap[w.heap.size + 1 + 1]? = some F := by
  refine ⟨_, rfl, by simp, fun V hb => ⟨?_, ?_, ?_, ?_⟩⟩
  · exact ((((Below.refl _ _).alloc (Nat.le_refl _) _).alloc (by simp) _).alloc (by simp; omega) _).trans (hb.mono (by simp; omega))
  · exact (hb.block _ (by simp; omega)).trans (box_later (box_later (heap_alloc_new _ _) _) _)
  · have := (hb.block (w.heap.size + 1) (by simp)).trans (box_later (show ((w.alloc P).alloc R).heap[w.heap.size + 1]? = some R by have := heap_alloc_new (w.alloc P) R; simpa using this) _)
    exact this
  · have := (hb.block (w.heap.size + 1 + 1) (by simp)).trans (show (((w.alloc P).alloc R).alloc F).heap[w.heap.size + 1 + 1]? = some F by have := heap_alloc_new ((w.alloc P).alloc R) F; simpa using this)
    exact this
theorem below7n {w w' : World} (h : Below w.heap.size w w') (a b c d e f g : Value) : Below w.heap.size w (((((((w'.setCell ⟨w.heap.size + 1, 0, none⟩ a).setCell ⟨w.heap.size + 1, 1, none⟩ b).setCell ⟨w.heap.size + 1, 2, none⟩ c).setCell ⟨w.heap.size + 1, 3, none⟩ d).setCell ⟨w.heap.size + 1 + 1, 0, none⟩ e).setCell ⟨w.heap.size + 1 + 1, 1, none⟩ f).setCell ⟨w.heap.size + 1 + 1, 2, none⟩ g) := by
  have h1 : w.heap.size ≤ w.heap.size + 1 := by omega
  have h2 : w.heap.size ≤ w.heap.size + 1 + 1 := by omega
  exact ((((((h.setCell h1 _).setCell h1 _).setCell h1 _).setCell h1 _).setCell h2 _).setCell h2 _).setCell h2 _
theorem below7 {w w' : World} (h : Below w.heap.size w w') (a b c d e f g : Value) : Below w.heap.size w (((((((w'.setCell ⟨w.heap.size + 1, 0, none⟩ a).setCell ⟨w.heap.size + 1, 1, none⟩ b).setCell ⟨w.heap.size + 1, 2, none⟩ c).setCell ⟨w.heap.size + 1, 3, none⟩ d).setCell ⟨w.heap.size + 1 + 1, 0, none⟩ e).setCell ⟨w.heap.size + 1 + 1, 1, none⟩ f).setCell ⟨w.heap.size + 1 + 1, 2, none⟩ g).drew := (below7n h a b c d e f g).drew
theorem far7 {w' : World} {k g : Nat} (h1 : g ≠ k + 1) (h2 : g ≠ k + 1 + 1) (a b c d e f q : Value) : (((((((w'.setCell ⟨k + 1, 0, none⟩ a).setCell ⟨k + 1, 1, none⟩ b).setCell ⟨k + 1, 2, none⟩ c).setCell ⟨k + 1, 3, none⟩ d).setCell ⟨k + 1 + 1, 0, none⟩ e).setCell ⟨k + 1 + 1, 1, none⟩ f).setCell ⟨k + 1 + 1, 2, none⟩ q).heap[g]? = w'.heap[g]? := by
  have e1 : ∀ (Z : World) (q : Nat) (u : Value), (Z.setCell ⟨k + 1, q, none⟩ u).heap[g]? = Z.heap[g]? := fun Z q u => Below.heap_setCell _ _ _ _ (fun x => h1 (by simpa using x))
  have e2 : ∀ (Z : World) (q : Nat) (u : Value), (Z.setCell ⟨k + 1 + 1, q, none⟩ u).heap[g]? = Z.heap[g]? := fun Z q u => Below.heap_setCell _ _ _ _ (fun x => h2 (by simpa using x))
  rw [e2, e2, e2, e1, e1, e1, e1]
end

section
open Go.RowKit

theorem ens_osin {w : World} {a : Option Addr} {es : List En} (h : EIn w a es) (hok : ∀ x, x ∈ es → EnOk w x) : OsIn w a (es.map En.o) := fun i hi => by
  have hi' : i < es.length := by simpa using hi
  obtain ⟨b, o, h1, h2, h3, h4⟩ := h i hi'
  have hx := hok _ (show es.getD i default ∈ es by rw [List.getD_eq_getElem?_getD, List.getElem?_eq_getElem hi']; exact List.getElem_mem hi')
  rw [map_getD hi']
  exact ⟨b, o, _, _, _, _, h1, h2, h3, h4, hx.ws, hx.pr⟩
theorem ens_obd {w : World} {es : List En} (hn : es.length ≤ 100000) (hok : ∀ x, x ∈ es → EnOk w x) : OBd (es.map En.o) := by
  refine ⟨by simpa using hn, fun o ho => ?_⟩
  obtain ⟨x, hx, rfl⟩ := List.mem_map.mp ho
  exact ⟨(hok x hx).wl, (hok x hx).pl⟩
/-- What Make tells. -/
def MakeQ (w : World) (L : Nat → Nat) (X : Nat → Nat → Nat → Int) (mode : Int) (s0 : Sx) (e : Ending) (w' : World) : Prop :=
  ∃ pb full ea ec l, e = .returned (.pointer (some ⟨pb, 0, none⟩)) ∧ Told (nxX L X mode) (outsX L X mode) s0 4000 full l ∧ w'.cell? ⟨pb, 4, none⟩ = some (.slice ea l.length ec) ∧ w'.cell? ⟨pb, 5, none⟩ = some (.bool full) ∧ OsIn w' ea l ∧ OBd l ∧ Below w.heap.size w w'
/-- What By tells, as Make tells it. -/
theorem by_told (w : World) (ca : Option Addr) (n cc : Nat) (wa : Option Addr) (wc lk rg : Nat) (mode : Int) (words : List Int) (A : Nat → Option Addr) (L C : Nat → Nat) (X : Nat → Nat → Nat → Int) (hw : SIs w wa words) (hn0 : 0 < n) (hc : COk n L X words.length lk rg) (hp : PIn w ca n A L C X) (hm : 0 ≤ mode) :
    Calls Try.prog 33 #[prgV ca n cc wa words.length wc lk rg, .int .i64 mode] w (MakeQ w L X mode (beginX n words lk rg)) := by
  obtain ⟨c, hcd⟩ : ∃ c : Bc, c = ⟨⟨ca, n, cc, wa, words.length, wc, lk, rg, mode⟩, A, L, C, X, words.length, lk, rg, beginX n words lk rg⟩ := ⟨_, rfl⟩
  have hok : BcOk c w := by rw [hcd]; exact ⟨hn0, hc, hp, hm⟩
  refine Calls.mono (by_any w ca n cc wa wc lk rg mode words A L C X c _ hcd rfl hw hok) ?_
  rintro e w' ⟨pb, v, d, ea, ec, es, i, N, rfl, h1, h2, h3⟩
  have ht := (h1.told h3).1
  have hcnt := h1.cnt
  have c4 := h1.sp.c4
  have c5 := h1.sp.c5
  rw [h1.ends] at c4
  have hlow := h1.low
  have hb0 : Below w.heap.size w (w.alloc (boxQ ca n cc wa words.length wc lk rg)) := (Below.refl _ _).alloc (Nat.le_refl _) _
  rw [hcd] at ht
  refine ⟨pb, d.full, ea, ec, es.map En.o, rfl, ht, by rw [List.length_map]; exact c4, c5, ens_osin h1.ein.ein (fun x hx => (h1.eok x hx).ok), ens_obd (w := w') (by omega) (fun x hx => (h1.eok x hx).ok), hb0.trans (hlow.mono (by simp))⟩
set_option maxRecDepth 100000 in
set_option maxHeartbeats 800000 in
/-- Make. -/
theorem make_any (w : World) (b : Bool) (ca : Option Addr) (n cc : Nat) (wa : Option Addr) (wc lk rg : Nat) (words : List Int) (A : Nat → Option Addr) (L C : Nat → Nat) (X : Nat → Nat → Nat → Int) (hw : SIs w wa words) (hn0 : 0 < n) (hc : COk n L X words.length lk rg) (hp : PIn w ca n A L C X) :
    Calls Try.prog 16 #[prgV ca n cc wa words.length wc lk rg, .bool b] w (MakeQ w L X (if b then 1 else 0) (beginX n words lk rg)) := by
  have HBY : Hid (∀ V mode, 0 ≤ mode → Below w.heap.size w V → Calls Try.prog 33 #[prgV ca n cc wa words.length wc lk rg, .int .i64 mode] V (MakeQ V L X mode (beginX n words lk rg))) := fun V mode hm hb => by
    exact by_told V ca n cc wa wc lk rg mode words A L C X (hw.below hb) hn0 hc (hp.below hb) hm
  have HUP : Hid (∀ V mode e w', Below w.heap.size w V → MakeQ V L X mode (beginX n words lk rg) e w' → MakeQ w L X mode (beginX n words lk rg) e w') := fun V mode e w' hb ⟨pb, full, ea, ec, l, h1, h2, h3, h4, h5, h6, h7⟩ => ⟨pb, full, ea, ec, l, h1, h2, h3, h4, h5, h6, hb.trans (h7.mono hb.size)⟩
  obtain ⟨q, hq⟩ : ∃ q : Sx, beginX n words lk rg = q := ⟨_, rfl⟩
  obtain ⟨m, hm⟩ : ∃ m, words.length = m := ⟨_, rfl⟩
  rw [hq, hm] at HBY ⊢
  rw [hq] at HUP
  have HBB : Hid (∀ o, Below w.heap.size w (w.alloc o)) := fun o => (Below.refl _ _).alloc (Nat.le_refl _) _
  clear hw hn0 hc hp hq hm
  cases b with
  | true =>
    go_enter Try.func16, Try.ntmps16
    go_wp2_with fail
    refine Calls.mono (HBY.out _ 1 (by decide) (HBB.out _)) ?_
    intro e w1 h1
    have h2 := HUP.out _ _ _ _ (HBB.out _) h1
    obtain ⟨pb, full, ea, ec, l, rfl, h3⟩ := h2
    have H3 := Hid.out (p := Hid _) h3
    clear h1 h3
    go_wp2_with fail
    go_ret
    exact ⟨pb, full, ea, ec, l, rfl, H3.out⟩
  | false =>
    go_enter Try.func16, Try.ntmps16
    go_wp2_with fail
    refine Calls.mono (HBY.out _ 0 (by decide) (HBB.out _)) ?_
    intro e w1 h1
    have h2 := HUP.out _ _ _ _ (HBB.out _) h1
    obtain ⟨pb, full, ea, ec, l, rfl, h3⟩ := h2
    have H3 := Hid.out (p := Hid _) h3
    clear h1 h3
    go_wp2_with fail
    go_ret
    exact ⟨pb, full, ea, ec, l, rfl, H3.out⟩
end

section
open Go.RowKit

theorem begin_bare (n : Nat) (words : List Int) (lk rg : Int) (t : Nat) (ht : t < n) : (thOf (beginX n words lk rg) t).wait = [] ∧ (thOf (beginX n words lk rg) t).pc = 0 := by
  unfold thOf beginX
  simp [List.getD, ht]
/-- The outcomes without fences that do nothing are the same. -/
theorem drop_same {n : Nat} {L : Nat → Nat} {X : Nat → Nat → Nat → Int} {words : List Int} {lk rg : Nat} {a b : List Oc} {mx : Nat} {mode : Int} (hm : 0 ≤ mode) {D : Nat → Nat → Bool} (hD : ∀ t i, t < n → i < L t → D t i = true → X t i 0 = 12 ∧ ¬ Way (L t) (X t) i true) (hc : COk n L X words.length lk rg) (ha : Told (nxX L X mode) (outsX L X mode) (beginX n words lk rg) mx false a) (hb : Told (nxX (lenR (bLess D X) L) (numR (bLess D X) L) mode) (outsX (lenR (bLess D X) L) (numR (bLess D X) L) mode) (beginX n words lk rg) mx false b) : a = b := by
  rcases ha with ⟨e, _⟩ | ⟨_, sa, ma, _⟩
  · cases e
  rcases hb with ⟨e, _⟩ | ⟨_, sb, mb, _⟩
  · cases e
  refine sorted_same sa sb fun o => ?_
  rw [ma, mb]
  have hR := drop_rel n L X D (fun t i => Way (L t) (X t) i true) hD
  constructor
  · rintro ⟨s, h1, h2⟩
    exact drop_out hR hc hm begin_ok rfl (begin_bare n words lk rg) h1 h2
  · rintro ⟨s, h1, h2⟩
    exact drop_back hR (way_rel n L X) hc hm begin_ok rfl (begin_bare n words lk rg) h1 h2
end

section
open Go.RowKit

/-- The document's Check, of every program that lies in memory. -/
theorem rcheck_any (ca : Option Addr) (n cc : Nat) (wa : Option Addr) (m wc : Nat) (lk rg : Int) (A : Nat → Option Addr) (L C : Nat → Nat) (X : Nat → Nat → Nat → Int) (x y z : Int) (HR : Hid (chk n L X m lk rg = (x, y, z))) (w : World) (hp : PIn w ca n A L C X) :
    Calls Try.prog 9 #[prgV ca n cc wa m wc lk rg] w fun e w' => e = .returned (ints3 x y z) ∧ Below w.heap.size w w' := by
  have h := HR.out
  unfold chk sizesE at h
  by_cases h1 : (n : Int) < 1 ∨ 4 < (n : Int) ∨ 64 < (m : Int)
  · simp only [h1, if_true] at h
    simp at h
    obtain ⟨rfl, rfl, rfl⟩ := h
    exact rcheck_size ca n cc wa m wc lk rg h1 w
  · by_cases h2 : lk < 0 ∨ 4 < lk ∨ rg < 1 ∨ 200 < rg
    · simp only [h1, h2, if_true, if_false] at h
      simp at h
      obtain ⟨rfl, rfl, rfl⟩ := h
      exact rcheck_range ca n cc wa m wc lk rg (by omega) (by omega) h2 w
    · simp only [h1, h2, if_false, ne_eq, not_true_eq_false] at h
      exact rcheck_go ca n cc wa m wc lk rg A L C X x y z (by omega) (by omega) (by omega) (by omega) h w hp
end

section
open Go.RowKit

/-- What is known behind Full, where the program may be, and Full says nothing wrong: the new program may be, what is told of both, and that this is the same. md: how the new one runs, me: how the old one does. -/
structure SameQ (w : World) (P Q : Value) (me md : Bool) (L : Nat → Nat) (X : Nat → Nat → Nat → Int) (L' : Nat → Nat) (X' : Nat → Nat → Nat → Int) (s0 : Sx) : Prop where
  chk : ∀ V, Below w.heap.size w V → Calls Try.prog 9 #[Q] V fun e w' => e = .returned (ints3 0 0 0) ∧ Below V.heap.size V w'
  old : ∀ V, Below w.heap.size w V → Calls Try.prog 16 #[P, .bool me] V (MakeQ V L X (if me then 1 else 0) s0)
  new : ∀ V, Below w.heap.size w V → Calls Try.prog 16 #[Q, .bool md] V (MakeQ V L' X' (if md then 1 else 0) s0)
  same : ∀ a b, Told (nxX L X (if me then 1 else 0)) (outsX L X (if me then 1 else 0)) s0 4000 false a → Told (nxX L' X' (if md then 1 else 0)) (outsX L' X' (if md then 1 else 0)) s0 4000 false b → a = b
end

end Go.Proofs.Ytgofbkgfonlceac
