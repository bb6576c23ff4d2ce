/-
  The program's parser: which statement it is.
-/
import Derived.Test.YtggfbfjdiikaeaaGreatDoorSqR
import Derived.Test.YtggfbfjdiikaeaaGreatDoorSynG7
namespace Go.Proofs.YtggfbfjdiikaeaaGreatDoor
open Go.RowKit

section
variable {E : Int} {d : Nat} {l : List Tok}
theorem word_is9 {s : List UInt8} (hs : isWord s = true) (hs0 : s ≠ []) (hl : ToksOk l) : isTok s l = true ↔ wordOf l = s := by
  cases l with
  | nil => simp [isTok, wordOf, hs0.symm]
  | cons t r =>
    have ht := hl t (List.mem_cons_self ..)
    simp only [isTok, wordOf, Bool.and_eq_true, Bool.or_eq_true, decide_eq_true_eq]
    constructor
    · rintro ⟨h1, h2⟩
      rcases h1 with h1 | h1
      · rw [if_pos h1]; exact h2
      · exfalso
        rcases ht with ⟨k, _⟩ | ⟨k, _⟩ | ⟨k, _⟩ | ⟨_, _, hk⟩
        · rw [k] at h1; cases h1
        · rw [k] at h1; cases h1
        · rw [k] at h1; cases h1
        · rw [h2] at hk
          rcases hk with hk | ⟨b, rfl, hb⟩
          · revert hs; unfold twoL at hk
            simp only [List.mem_cons, List.not_mem_nil, or_false] at hk
            rcases hk with rfl | rfl | rfl | rfl | rfl | rfl <;> decide
          · revert hs; unfold oneS at hb
            simp only [List.mem_cons, List.not_mem_nil, or_false] at hb
            rcases hb with rfl | rfl | rfl | rfl | rfl | rfl | rfl | rfl | rfl | rfl | rfl | rfl | rfl <;> decide
    · intro h
      split at h
      · exact ⟨Or.inl ‹_›, h⟩
      · exact absurd h.symm hs0
theorem word_no9 {t : Tok} {r : List Tok} (hk : t.kind = 1) {s : List UInt8} (hs0 : s ≠ []) : wordOf (t :: r) ≠ s := by
  rw [wordOf, if_neg (by rw [hk]; decide)]
  exact fun e => hs0 e.symm
theorem stmt_name9 {t : Tok} {r : List Tok} (hk : t.kind = 1) : stmtT E d (t :: r) = assignT E d (t :: r) := by
  refine stmt_none fun c hc => word_no9 hk ?_
  simp only [stWords, List.mem_cons, List.not_mem_nil, or_false] at hc
  rcases hc with rfl | rfl | rfl | rfl | rfl | rfl | rfl <;> decide
theorem assign_no9 (hk : (tokE E l).kind ≠ 1) : assignT E d l = .error (5, posOf E l) := by
  rw [assignT_is]
  cases l with
  | nil => rfl
  | cons t r => rw [nameT_no (show ¬ t.kind = 1 from hk)]; rfl
set_option maxRecDepth 100000 in
set_option maxHeartbeats 1600000 in
theorem qst_int {R : TRes Nd} (hw : isTok wInt l = true) (HX : Cpr 149 [] E d l R) : Cpr 139 [] E d l R := by
  refine cpr_of fun C w rows hE hg => ?_
  subst hE
  have HN := Hid.out (p := Hid _) (qnext hg)
  have HG := Hid.out (p := Hid _) hg
  have hfd0 := fld0
  have hfd3 := fld3
  obtain ⟨t, r, rfl⟩ : ∃ t r, l = t :: r := by
    cases l with
    | nil => cases hw
    | cons t r => exact ⟨t, r, rfl⟩
  have htx : t.text = wInt := by simp only [isTok, Bool.and_eq_true, decide_eq_true_eq] at hw; exact hw.2
  have hk1 : (t.kind == 1) = false := by
    simp only [isTok, Bool.and_eq_true, Bool.or_eq_true, decide_eq_true_eq] at hw
    rcases hw.1 with h | h <;> (rw [h]; decide)
  have HT := Hid.out (p := Hid _) htx
  have HXX := Hid.out (p := Hid _) HX
  simp only [tokE] at HN
  rw [htx] at HN
  clear hg htx hw HX
  go_enter Tryz.func139, Tryz.ntmps139
  go_wp2_with (go_at_call 84; refine Calls.mono HN.out ?_; rintro e w1 ⟨rfl, hb⟩; have HG1 := Hid.out (p := Hid _) (HG.out.below hb); clear hb)
  refine Calls.mono (HXX.out C _ _ _ _ rfl (HG1.out.below ((Below.refl _ _).alloc (Nat.le_refl _) _))) ?_
  intro e w3 hq
  cases R with
  | error f => obtain ⟨rfl, hf⟩ := hq; exact ⟨rfl, rfl, hf⟩
  | ok y =>
    obtain ⟨x, q⟩ := y
    obtain ⟨rfl, hg3⟩ := hq
    have HG3 := Hid.out (p := Hid _) hg3
    clear hg3
    go_wp2_with fail
    go_ret
    exact ⟨rfl, HG3.out⟩
set_option maxRecDepth 100000 in
set_option maxHeartbeats 1600000 in
theorem qst_if {R : TRes Nd} (hw : isTok wIf l = true) (HX : Cpr 150 [] E d l R) : Cpr 139 [] E d l R := by
  refine cpr_of fun C w rows hE hg => ?_
  subst hE
  have HN := Hid.out (p := Hid _) (qnext hg)
  have HG := Hid.out (p := Hid _) hg
  have hfd0 := fld0
  have hfd3 := fld3
  obtain ⟨t, r, rfl⟩ : ∃ t r, l = t :: r := by
    cases l with
    | nil => cases hw
    | cons t r => exact ⟨t, r, rfl⟩
  have htx : t.text = wIf := by simp only [isTok, Bool.and_eq_true, decide_eq_true_eq] at hw; exact hw.2
  have hk1 : (t.kind == 1) = false := by
    simp only [isTok, Bool.and_eq_true, Bool.or_eq_true, decide_eq_true_eq] at hw
    rcases hw.1 with h | h <;> (rw [h]; decide)
  have HT := Hid.out (p := Hid _) htx
  have HXX := Hid.out (p := Hid _) HX
  simp only [tokE] at HN
  rw [htx] at HN
  clear hg htx hw HX
  go_enter Tryz.func139, Tryz.ntmps139
  go_wp2_with (go_at_call 84; refine Calls.mono HN.out ?_; rintro e w1 ⟨rfl, hb⟩; have HG1 := Hid.out (p := Hid _) (HG.out.below hb); clear hb)
  refine Calls.mono (HXX.out C _ _ _ _ rfl (HG1.out.below ((Below.refl _ _).alloc (Nat.le_refl _) _))) ?_
  intro e w3 hq
  cases R with
  | error f => obtain ⟨rfl, hf⟩ := hq; exact ⟨rfl, rfl, hf⟩
  | ok y =>
    obtain ⟨x, q⟩ := y
    obtain ⟨rfl, hg3⟩ := hq
    have HG3 := Hid.out (p := Hid _) hg3
    clear hg3
    go_wp2_with fail
    go_ret
    exact ⟨rfl, HG3.out⟩
set_option maxRecDepth 100000 in
set_option maxHeartbeats 1600000 in
theorem qst_while {R : TRes Nd} (hw : isTok wWhile l = true) (HX : Cpr 151 [] E d l R) : Cpr 139 [] E d l R := by
  refine cpr_of fun C w rows hE hg => ?_
  subst hE
  have HN := Hid.out (p := Hid _) (qnext hg)
  have HG := Hid.out (p := Hid _) hg
  have hfd0 := fld0
  have hfd3 := fld3
  obtain ⟨t, r, rfl⟩ : ∃ t r, l = t :: r := by
    cases l with
    | nil => cases hw
    | cons t r => exact ⟨t, r, rfl⟩
  have htx : t.text = wWhile := by simp only [isTok, Bool.and_eq_true, decide_eq_true_eq] at hw; exact hw.2
  have hk1 : (t.kind == 1) = false := by
    simp only [isTok, Bool.and_eq_true, Bool.or_eq_true, decide_eq_true_eq] at hw
    rcases hw.1 with h | h <;> (rw [h]; decide)
  have HT := Hid.out (p := Hid _) htx
  have HXX := Hid.out (p := Hid _) HX
  simp only [tokE] at HN
  rw [htx] at HN
  clear hg htx hw HX
  go_enter Tryz.func139, Tryz.ntmps139
  go_wp2_with (go_at_call 84; refine Calls.mono HN.out ?_; rintro e w1 ⟨rfl, hb⟩; have HG1 := Hid.out (p := Hid _) (HG.out.below hb); clear hb)
  refine Calls.mono (HXX.out C _ _ _ _ rfl (HG1.out.below ((Below.refl _ _).alloc (Nat.le_refl _) _))) ?_
  intro e w3 hq
  cases R with
  | error f => obtain ⟨rfl, hf⟩ := hq; exact ⟨rfl, rfl, hf⟩
  | ok y =>
    obtain ⟨x, q⟩ := y
    obtain ⟨rfl, hg3⟩ := hq
    have HG3 := Hid.out (p := Hid _) hg3
    clear hg3
    go_wp2_with fail
    go_ret
    exact ⟨rfl, HG3.out⟩
set_option maxRecDepth 100000 in
set_option maxHeartbeats 1600000 in
theorem qst_print {R : TRes Nd} (hw : isTok wPrint l = true) (HX : Cpr 152 [] E d l R) : Cpr 139 [] E d l R := by
  refine cpr_of fun C w rows hE hg => ?_
  subst hE
  have HN := Hid.out (p := Hid _) (qnext hg)
  have HG := Hid.out (p := Hid _) hg
  have hfd0 := fld0
  have hfd3 := fld3
  obtain ⟨t, r, rfl⟩ : ∃ t r, l = t :: r := by
    cases l with
    | nil => cases hw
    | cons t r => exact ⟨t, r, rfl⟩
  have htx : t.text = wPrint := by simp only [isTok, Bool.and_eq_true, decide_eq_true_eq] at hw; exact hw.2
  have hk1 : (t.kind == 1) = false := by
    simp only [isTok, Bool.and_eq_true, Bool.or_eq_true, decide_eq_true_eq] at hw
    rcases hw.1 with h | h <;> (rw [h]; decide)
  have HT := Hid.out (p := Hid _) htx
  have HXX := Hid.out (p := Hid _) HX
  simp only [tokE] at HN
  rw [htx] at HN
  clear hg htx hw HX
  go_enter Tryz.func139, Tryz.ntmps139
  go_wp2_with (go_at_call 84; refine Calls.mono HN.out ?_; rintro e w1 ⟨rfl, hb⟩; have HG1 := Hid.out (p := Hid _) (HG.out.below hb); clear hb)
  refine Calls.mono (HXX.out C _ _ _ _ rfl (HG1.out.below ((Below.refl _ _).alloc (Nat.le_refl _) _))) ?_
  intro e w3 hq
  cases R with
  | error f => obtain ⟨rfl, hf⟩ := hq; exact ⟨rfl, rfl, hf⟩
  | ok y =>
    obtain ⟨x, q⟩ := y
    obtain ⟨rfl, hg3⟩ := hq
    have HG3 := Hid.out (p := Hid _) hg3
    clear hg3
    go_wp2_with fail
    go_ret
    exact ⟨rfl, HG3.out⟩
set_option maxRecDepth 100000 in
set_option maxHeartbeats 1600000 in
theorem qst_lock {R : TRes Nd} (hw : isTok wLock l = true) (HX : Cpr 153 [.int .i64 12] E d l R) : Cpr 139 [] E d l R := by
  refine cpr_of fun C w rows hE hg => ?_
  subst hE
  have HN := Hid.out (p := Hid _) (qnext hg)
  have HG := Hid.out (p := Hid _) hg
  have hfd0 := fld0
  have hfd3 := fld3
  obtain ⟨t, r, rfl⟩ : ∃ t r, l = t :: r := by
    cases l with
    | nil => cases hw
    | cons t r => exact ⟨t, r, rfl⟩
  have htx : t.text = wLock := by simp only [isTok, Bool.and_eq_true, decide_eq_true_eq] at hw; exact hw.2
  have hk1 : (t.kind == 1) = false := by
    simp only [isTok, Bool.and_eq_true, Bool.or_eq_true, decide_eq_true_eq] at hw
    rcases hw.1 with h | h <;> (rw [h]; decide)
  have HT := Hid.out (p := Hid _) htx
  have HXX := Hid.out (p := Hid _) HX
  simp only [tokE] at HN
  rw [htx] at HN
  clear hg htx hw HX
  go_enter Tryz.func139, Tryz.ntmps139
  go_wp2_with (go_at_call 84; refine Calls.mono HN.out ?_; rintro e w1 ⟨rfl, hb⟩; have HG1 := Hid.out (p := Hid _) (HG.out.below hb); clear hb)
  refine Calls.mono (HXX.out C _ _ _ _ rfl (HG1.out.below ((Below.refl _ _).alloc (Nat.le_refl _) _))) ?_
  intro e w3 hq
  cases R with
  | error f => obtain ⟨rfl, hf⟩ := hq; exact ⟨rfl, rfl, hf⟩
  | ok y =>
    obtain ⟨x, q⟩ := y
    obtain ⟨rfl, hg3⟩ := hq
    have HG3 := Hid.out (p := Hid _) hg3
    clear hg3
    go_wp2_with fail
    go_ret
    exact ⟨rfl, HG3.out⟩
set_option maxRecDepth 100000 in
set_option maxHeartbeats 1600000 in
theorem qst_unlock {R : TRes Nd} (hw : isTok wUnlock l = true) (HX : Cpr 153 [.int .i64 13] E d l R) : Cpr 139 [] E d l R := by
  refine cpr_of fun C w rows hE hg => ?_
  subst hE
  have HN := Hid.out (p := Hid _) (qnext hg)
  have HG := Hid.out (p := Hid _) hg
  have hfd0 := fld0
  have hfd3 := fld3
  obtain ⟨t, r, rfl⟩ : ∃ t r, l = t :: r := by
    cases l with
    | nil => cases hw
    | cons t r => exact ⟨t, r, rfl⟩
  have htx : t.text = wUnlock := by simp only [isTok, Bool.and_eq_true, decide_eq_true_eq] at hw; exact hw.2
  have hk1 : (t.kind == 1) = false := by
    simp only [isTok, Bool.and_eq_true, Bool.or_eq_true, decide_eq_true_eq] at hw
    rcases hw.1 with h | h <;> (rw [h]; decide)
  have HT := Hid.out (p := Hid _) htx
  have HXX := Hid.out (p := Hid _) HX
  simp only [tokE] at HN
  rw [htx] at HN
  clear hg htx hw HX
  go_enter Tryz.func139, Tryz.ntmps139
  go_wp2_with (go_at_call 84; refine Calls.mono HN.out ?_; rintro e w1 ⟨rfl, hb⟩; have HG1 := Hid.out (p := Hid _) (HG.out.below hb); clear hb)
  refine Calls.mono (HXX.out C _ _ _ _ rfl (HG1.out.below ((Below.refl _ _).alloc (Nat.le_refl _) _))) ?_
  intro e w3 hq
  cases R with
  | error f => obtain ⟨rfl, hf⟩ := hq; exact ⟨rfl, rfl, hf⟩
  | ok y =>
    obtain ⟨x, q⟩ := y
    obtain ⟨rfl, hg3⟩ := hq
    have HG3 := Hid.out (p := Hid _) hg3
    clear hg3
    go_wp2_with fail
    go_ret
    exact ⟨rfl, HG3.out⟩
set_option maxRecDepth 100000 in
set_option maxHeartbeats 1600000 in
theorem qst_fence (hw : isTok wFence l = true) : Cpr 139 [] E d l (bindL (takeT E [59] l.tail) fun q => .ok (.mk 14 0 (posOf E l) [] [], q)) := by
  refine cpr_of fun C w rows hE hg => ?_
  subst hE
  have HN := Hid.out (p := Hid _) (qnext hg)
  have HG := Hid.out (p := Hid _) hg
  have hfd0 := fld0
  have hfd3 := fld3
  have hfd2 := fld2
  have hfw := hg.fewR
  obtain ⟨t, r, rfl⟩ : ∃ t r, l = t :: r := by
    cases l with
    | nil => cases hw
    | cons t r => exact ⟨t, r, rfl⟩
  have htk : takeT C.E wFence (t :: r) = .ok r := by unfold takeT; rw [if_pos hw]; rfl
  have htx : t.text = wFence := by simp only [isTok, Bool.and_eq_true, decide_eq_true_eq] at hw; exact hw.2
  have hk1 : (t.kind == 1) = false := by
    simp only [isTok, Bool.and_eq_true, Bool.or_eq_true, decide_eq_true_eq] at hw
    rcases hw.1 with h | h <;> (rw [h]; decide)
  simp only [tokE] at HN
  rw [htx] at HN
  obtain ⟨R, hR⟩ : ∃ R : TRes Nd, R = bindL (takeT C.E [59] r) fun q => .ok (.mk 14 0 t.pos [] [], q) := ⟨_, rfl⟩
  change Calls _ _ _ _ fun e w' => PrQ C w' d none [] rows (bindL (takeT C.E [59] r) fun q => .ok (.mk 14 0 t.pos [] [], q)) e
  rw [← hR]
  clear hg htx hw
  go_enter Tryz.func139, Tryz.ntmps139
  go_wp2_with (go_at_call 84; refine Calls.mono HN.out ?_; rintro e w1 ⟨rfl, hb⟩; have HG1 := Hid.out (p := Hid _) (HG.out.below hb); clear hb)
  have hg1 := HG1.out.box (.cells #[.int .i64 t.kind, .int .i64 t.num, .int .i64 t.pos, .string ⟨⟨wFence⟩⟩] 98)
  refine Calls.mono (qword2g hg1 (w1.heap.size + 1) (by simp) ⟨#[102, 101, 110, 99, 101]⟩ ⟨#[59]⟩ (lit_word (by decide)) (lit_sign (by decide)) ⟨fun h => absurd h (by decide), ⟨fun h => absurd h (by decide), trivial⟩⟩ _ (words_two (by decide) (by decide))) ?_
  intro e w2 hq
  change WdQ C _ _ _ _ (match takeT C.E wFence (t :: r) with
      | .error q => .error q
      | .ok r => wordsR C.E d [[59]] r) e w2 at hq
  rw [htk] at hq
  simp only at hq
  rw [words_one (by decide) (by decide)] at hq
  cases ht1 : takeT C.E [59] r with
  | error f =>
    rw [ht1] at hq hR
    obtain ⟨rfl, hf⟩ := hq
    subst hR
    exact ⟨rfl, rfl, hf⟩
  | ok q =>
    rw [ht1] at hq hR
    obtain ⟨rfl, hg2, -⟩ := hq
    have k1 := take_len ht1
    obtain ⟨hb2, hbP, hbl⟩ := hg2.bxc
    obtain ⟨b0, b1, b2, b3, bf⟩ := box4 hb2
    have HG2 := Hid.out (p := Hid _) hg2
    have HR := Hid.out (p := Hid _) hR
    have hfe : rows.length + 1 + q.length ≤ C.T.length := by
      have := hfw.1
      simp only [List.length_cons] at this
      omega
    clear hg2 hR hb2 hg1 htk
    go_wp2_with fail
    refine Calls.mono (qadd HG2.out 14 0 t.pos [] [] none 0 0 (Or.inr ⟨rfl, rfl⟩) hfe) ?_
    rintro e w7 ⟨rfl, hg7⟩
    have HG7 := Hid.out (p := Hid _) hg7.drop
    clear hg7
    go_wp2_with fail
    go_ret
    rw [HR.out]
    refine ⟨by rw [size_none]; simp, ?_⟩
    simpa [flat, flats, idxs] using HG7.out
set_option maxRecDepth 100000 in
set_option maxHeartbeats 1600000 in
theorem qst_name {t : Tok} {r : List Tok} (hk : t.kind = 1) : Cpr 139 [] E d (t :: r) (assignT E d (t :: r)) := by
  refine cpr_of fun C w rows hE hg => ?_
  subst hE
  have HN := Hid.out (p := Hid _) (qnext hg)
  have HG := Hid.out (p := Hid _) hg
  have hfd0 := fld0
  have hfd3 := fld3
  have hk1 : (t.kind == 1) = true := by rw [hk]; decide
  have HXX := Hid.out (p := Hid _) (qassign (E := C.E) (d := d) (r := r) hk)
  obtain ⟨R, hR⟩ : ∃ R : TRes Nd, R = assignT C.E d (t :: r) := ⟨_, rfl⟩
  rw [← hR] at HXX ⊢
  simp only [tokE] at HN
  clear hg hk hR
  go_enter Tryz.func139, Tryz.ntmps139
  go_wp2_with (go_at_call 84; refine Calls.mono HN.out ?_; rintro e w1 ⟨rfl, hb⟩; have HG1 := Hid.out (p := Hid _) (HG.out.below hb); clear hb)
  refine Calls.mono (HXX.out C _ _ _ _ rfl (HG1.out.below ((Below.refl _ _).alloc (Nat.le_refl _) _))) ?_
  intro e w3 hq
  cases R with
  | error f => obtain ⟨rfl, hf⟩ := hq; exact ⟨rfl, rfl, hf⟩
  | ok y =>
    obtain ⟨x, q⟩ := y
    obtain ⟨rfl, hg3⟩ := hq
    have HG3 := Hid.out (p := Hid _) hg3
    clear hg3
    go_wp2_with fail
    go_ret
    exact ⟨rfl, HG3.out⟩
set_option maxRecDepth 100000 in
set_option maxHeartbeats 1600000 in
theorem qst_none (hk : (tokE E l).kind ≠ 1) (hw : ∀ c, c ∈ stWords → (tokE E l).text ≠ c) : Cpr 139 [] E d l (.error (5, posOf E l)) := by
  refine cpr_of fun C w rows hE hg => ?_
  subst hE
  have HN := Hid.out (p := Hid _) (qnext hg)
  have HG := Hid.out (p := Hid _) hg
  have hfd0 := fld0
  have hfd3 := fld3
  have hk1 : ((tokE C.E l).kind == 1) = false := by simpa using hk
  have hb : ∀ c, c ∈ stWords → ((tokE C.E l).text == c) = false := fun c hc => by simpa using hw c hc
  simp only [stWords, List.mem_cons, List.not_mem_nil, or_false, forall_eq_or_imp, forall_eq] at hb
  obtain ⟨e1, e2, e3, e4, e5, e6, e7⟩ := hb
  obtain ⟨T, hT⟩ : ∃ T, T = tokE C.E l := ⟨_, rfl⟩
  rw [← hT] at HN hk1 e1 e2 e3 e4 e5 e6 e7
  clear hg hk hw hT
  go_enter Tryz.func139, Tryz.ntmps139
  go_wp2_with (first
    | (go_at_call 84; refine Calls.mono HN.out ?_; rintro e w1 ⟨rfl, hb⟩; have HG1 := Hid.out (p := Hid _) (HG.out.below hb); clear hb)
    | (go_at_call 85; refine Calls.mono (qfault (HG1.out.below ((Below.refl _ _).alloc (Nat.le_refl _) _)) 5) ?_; rintro e w2 ⟨rfl, hb2⟩; have HF2 : Hid (FrP C w2) := (HG1.out.below ((Below.refl _ _).alloc (Nat.le_refl _) _)).frp.below hb2; clear hb2))
  exact ⟨rfl, rfl, HF2.out⟩
theorem qstmt (hl : ToksOk l) (IH : ∀ q, q.length + 1 < l.length → Cpr 115 [] E d q (blockT E d q)) : Cpr 139 [] E d l (stmtT E d l) := by
  by_cases hk : ∃ t r, l = t :: r ∧ t.kind = 1
  · obtain ⟨t, r, rfl, hk⟩ := hk
    rw [stmt_name9 hk]
    exact qst_name hk
  have hk2 : (tokE E l).kind ≠ 1 := fun h => by
    cases l with
    | nil => cases h
    | cons t r => exact hk ⟨t, r, rfl, h⟩
  rw [stmtT_is]
  by_cases h2 : isTok wIf l = true
  · rw [if_pos ((word_is9 (by decide) (by decide) hl).1 h2)]
    have h3 := qchoice IH
    have ht : takeT E wIf l = .ok l.tail := by unfold takeT; rw [if_pos h2]
    have he : (bindT (heldT E d l.tail) fun x r => bindT (blockT E d r) fun b r =>
      if isTok wElse r = true then bindT (blockT E d r.tail) fun c q => .ok (Nd.mk 9 0 (posOf E l) [] [x, b, c], q)
      else .ok (Nd.mk 9 0 (posOf E l) [] [x, b], r)) = bindT (grdT E d wIf l) fun xs r => if isTok wElse r = true then bindT (blockT E d r.tail) fun c q => .ok (Nd.mk 9 0 (posOf E l) [] (xs ++ [c]), q) else .ok (Nd.mk 9 0 (posOf E l) [] xs, r) := by
      unfold grdT
      rw [ht]
      simp only [bindL]
      cases heldT E d l.tail with
      | error f => rfl
      | ok y =>
        simp only [bindT]
        cases blockT E d y.2 with
        | error f => rfl
        | ok z => rfl
    rw [he]
    exact qst_if h2 h3
  rw [if_neg (fun h => h2 ((word_is9 (by decide) (by decide) hl).2 h))]
  by_cases h3 : isTok wWhile l = true
  · rw [if_pos ((word_is9 (by decide) (by decide) hl).1 h3)]
    have h4 := qloop IH
    have ht : takeT E wWhile l = .ok l.tail := by unfold takeT; rw [if_pos h3]
    have he : (bindT (heldT E d l.tail) fun x r => bindT (blockT E d r) fun b q => .ok (Nd.mk 10 0 (posOf E l) [] [x, b], q)) = bindT (grdT E d wWhile l) fun xs q => .ok (Nd.mk 10 0 (posOf E l) [] xs, q) := by
      unfold grdT
      rw [ht]
      simp only [bindL]
      cases heldT E d l.tail with
      | error f => rfl
      | ok y =>
        simp only [bindT]
        cases blockT E d y.2 with
        | error f => rfl
        | ok z => rfl
    rw [he]
    exact qst_while h3 h4
  rw [if_neg (fun h => h3 ((word_is9 (by decide) (by decide) hl).2 h))]
  by_cases h4 : isTok wInt l = true
  · rw [if_pos ((word_is9 (by decide) (by decide) hl).1 h4)]
    have h5 := qlocal (E := E) (d := d) (l := l)
    have ht : takeT E wInt l = .ok l.tail := by unfold takeT; rw [if_pos h4]
    rw [ht] at h5
    exact qst_int h4 h5
  rw [if_neg (fun h => h4 ((word_is9 (by decide) (by decide) hl).2 h))]
  by_cases h5 : isTok wPrint l = true
  · rw [if_pos ((word_is9 (by decide) (by decide) hl).1 h5)]
    have h6 := qprint (E := E) (d := d) (l := l)
    have ht : takeT E wPrint l = .ok l.tail := by unfold takeT; rw [if_pos h5]
    rw [ht] at h6
    exact qst_print h5 h6
  rw [if_neg (fun h => h5 ((word_is9 (by decide) (by decide) hl).2 h))]
  by_cases h6 : isTok wLock l = true
  · have hw := (word_is9 (by decide) (by decide) hl).1 h6
    rw [if_pos (Or.inl hw), if_pos hw]
    refine qst_lock h6 ?_
    cases l with
    | nil => cases h6
    | cons t r =>
      refine qofLock 12 ?_
      simp only [isTok, Bool.and_eq_true, decide_eq_true_eq] at h6
      rw [h6.2]; decide
  by_cases h7 : isTok wUnlock l = true
  · have hw := (word_is9 (by decide) (by decide) hl).1 h7
    have hn : ¬ wordOf l = wLock := fun h => h6 ((word_is9 (by decide) (by decide) hl).2 h)
    rw [if_pos (Or.inr hw), if_neg hn]
    refine qst_unlock h7 ?_
    cases l with
    | nil => cases h7
    | cons t r =>
      refine qofLock 13 ?_
      simp only [isTok, Bool.and_eq_true, decide_eq_true_eq] at h7
      rw [h7.2]; decide
  rw [if_neg (by
    rintro (h | h)
    · exact h6 ((word_is9 (by decide) (by decide) hl).2 h)
    · exact h7 ((word_is9 (by decide) (by decide) hl).2 h))]
  by_cases h8 : isTok wFence l = true
  · rw [if_pos ((word_is9 (by decide) (by decide) hl).1 h8)]
    exact qst_fence h8
  rw [if_neg (fun h => h8 ((word_is9 (by decide) (by decide) hl).2 h)), assign_no9 hk2]
  have hx : ∀ s, isWord s = true → ¬ isTok s l = true → (tokE E l).text ≠ s := fun s hs hn h => by
    have := lit_text (C := ⟨default, nilV, 0, 0, [], E, nilV, fun _ => False⟩) (lit_word hs) hl
    simp only [h, decide_true] at this
    exact hn this.symm
  refine qst_none hk2 fun c hc => ?_
  simp only [stWords, List.mem_cons, List.not_mem_nil, or_false] at hc
  rcases hc with rfl | rfl | rfl | rfl | rfl | rfl | rfl
  · exact hx _ (by decide) h4
  · exact hx _ (by decide) h2
  · exact hx _ (by decide) h3
  · exact hx _ (by decide) h5
  · exact hx _ (by decide) h6
  · exact hx _ (by decide) h7
  · exact hx _ (by decide) h8
theorem qstmt9 (IH : ∀ q, q.length + 1 < l.length → Cpr 115 [] E d q (blockT E d q)) : Cpr 139 [] E d l (stmtT E d l) := fun C w bx ps rows hE hg => qstmt hg.fewR.2.2.2 IH C w bx ps rows hE hg
end
section
variable {E : Int}
/-- Every block: the program's parser reads it. -/
theorem qblock9 : ∀ (N : Nat) (l : List Tok), l.length ≤ N → ∀ d, Cpr 115 [] E d l (blockT E d l) := by
  intro N
  induction N using Nat.strongRecOn with
  | _ N ih =>
    intro l hl d
    refine qblock fun q hq => qstmt9 fun z hz => ?_
    exact ih z.length (by omega) z (Nat.le_refl _) (d + 1)
theorem qblock_all (l : List Tok) (d : Nat) : Cpr 115 [] E d l (blockT E d l) := qblock9 l.length l (Nat.le_refl _) d
end

end Go.Proofs.YtggfbfjdiikaeaaGreatDoor
