/-
  The document's parser: what fails, what is taken.
  The document's parser: names, nodes.
  The document's parser: one more node.
  The document's parser: how tight a sign binds.
  The document's parser where it failed: it goes on to the end, and what is told stays.
-/
import Derived.Test.YtggfbfjdiikaeaaGreatDoorPlain
namespace Go.Proofs.YtggfbfjdiikaeaaGreatDoor
section
open Go.RowKit

theorem heap_set9 {w : World} {g i : Nat} {cs : Array Value} {t : TypeId} {u : Value} (h : w.heap[g]? = some (.cells cs t)) : (w.setCell ⟨g, i, none⟩ u).heap[g]? = some (.cells (cs.setIfInBounds i u) t) := by
  simp only [World.setCell, Array.getElem?_modify, if_true, h, Option.map_some]
  rfl
/-- Nothing that was there has changed, but one block. -/
structure Only (P : Nat) (w w' : World) : Prop where
  os : w'.os = w.os
  tape : w'.tape = w.tape
  output : w'.output = w.output
  size : w.heap.size ≤ w'.heap.size
  block : ∀ k, k < w.heap.size → k ≠ P → w'.heap[k]? = w.heap[k]?
section
variable {P : Nat} {w V W : World}
theorem Only.refl (P : Nat) (w : World) : Only P w w := ⟨rfl, rfl, rfl, Nat.le_refl _, fun _ _ _ => rfl⟩
theorem Only.of (h : Below w.heap.size w W) : Only P w W := ⟨h.os, h.tape, h.output, h.size, fun k hk _ => h.block k hk⟩
theorem Only.trans (h : Only P w V) (k : Only P V W) : Only P w W := ⟨k.os.trans h.os, k.tape.trans h.tape, k.output.trans h.output, Nat.le_trans h.size k.size, fun j hj hp => (k.block j (Nat.lt_of_lt_of_le hj h.size) hp).trans (h.block j hj hp)⟩
theorem Only.set (h : Only P w W) (i : Nat) (u : Value) : Only P w (W.setCell ⟨P, i, none⟩ u) := h.trans ⟨rfl, rfl, rfl, by simp, fun k _ hp => Below.heap_setCell _ _ _ _ hp⟩
theorem Only.drew (h : Only P w W) : Only P w W.drew := ⟨h.os, h.tape, h.output, h.size, h.block⟩
theorem Only.alloc (h : Only P w W) (o : Obj) : Only P w (W.alloc o) := h.trans (Only.of ((Below.refl _ _).alloc (Nat.le_refl _) o))
end
section
variable {w W : World} {P : Nat} {T : List Tok} {E : Int} {i : Nat} {d : Int} {tv lv : Value} {c a : Int}
theorem Ps.lt (h : Ps w P T E i d tv lv c a) : P < w.heap.size := lt_of_cell h.c0
theorem Ps.c6 (h : Ps w P T E i d tv lv c a) : w.cell? ⟨P, 6, none⟩ = some (.int .i64 0) := box_cell h.box rfl
theorem Ps.c7 (h : Ps w P T E i d tv lv c a) : w.cell? ⟨P, 7, none⟩ = some (.int .i64 a) := box_cell h.box rfl
theorem Ps.free (h : Ps w P T E i d tv lv c a) (k : Nat) : w.frozen? ⟨P, k, none⟩ = false := box_free h.box
theorem Ps.below (h : Ps w P T E i d tv lv c a) (hb : Below w.heap.size w W) : Ps W P T E i d tv lv c a := ⟨(hb.block P h.lt).trans h.box, h.toks.below hb, h.apart, h.le, h.few⟩
/-- The parser with other numbers. -/
theorem Ps.next (h : Ps w P T E i d tv lv c a) (ho : Only P w W) {i' : Nat} {d' : Int} {lv' : Value} {c' a' : Int} (hi : i' ≤ T.length) (hb : W.heap[P]? = some (.cells #[tv, .int .i64 E, .int .i64 (i' : Int), .int .i64 d', lv', .int .i64 c', .int .i64 0, .int .i64 a'] 73)) : Ps W P T E i' d' tv lv' c' a' :=
  ⟨hb, fam_keeps h.toks fun g hg => ho.block g (h.toks.lt g hg).2 fun e => h.apart (by rw [hg, e]), h.apart, hi, h.few⟩
end

set_option maxRecDepth 100000 in
set_option maxHeartbeats 1600000 in
theorem rfail_ok {w : World} {P : Nat} {T : List Tok} {E : Int} {i : Nat} {d : Int} {tv lv : Value} {a : Int} (h : Ps w P T E i d tv lv 0 a) (code : Int) :
    Calls Tryz.prog 52 #[.pointer (some ⟨P, 0, none⟩), .int .i64 code] w fun e w' => e = .returned (.int .i64 0) ∧ Ps w' P T E T.length d tv lv code (posOf E (T.drop i)) ∧ Only P w w' := by
  have c5 := h.c5
  have HAT := Hid.out (p := Hid _) (rat_any h)
  have HPS := Hid.out (p := Hid _) h
  have hP := h.lt
  have hfew := h.few
  obtain ⟨ta, tc, rfl⟩ := h.toks.form
  clear h
  go_enter Tryz.func52, Tryz.ntmps52
  go_wp2_with (go_at_call 28; refine Calls.mono HAT.out ?_; rintro e w1 ⟨rfl, hb1⟩; have k0 := (HPS.out.below hb1).c0; have k2 := (HPS.out.below hb1).c2; have k5 := (HPS.out.below hb1).c5; have k6 := (HPS.out.below hb1).c6; have k7 := (HPS.out.below hb1).c7; have kf := (HPS.out.below hb1).free)
  go_ret
  have hs := HPS.out.below hb1
  have ho : Only P w w1 := Only.of hb1
  exact ⟨rfl, HPS.out.next (((ho.set _ _).set _ _).set _ _ |>.set _ _) (Nat.le_refl _) (heap_set9 (heap_set9 (heap_set9 (heap_set9 hs.box)))), ((ho.set _ _).set _ _).set _ _ |>.set _ _⟩
set_option maxRecDepth 100000 in
set_option maxHeartbeats 1600000 in
theorem rfail_no {w : World} {P : Nat} {T : List Tok} {E : Int} {i : Nat} {d : Int} {tv lv : Value} {c a : Int} (h : Ps w P T E i d tv lv c a) (hc : c ≠ 0) (code : Int) :
    Calls Tryz.prog 52 #[.pointer (some ⟨P, 0, none⟩), .int .i64 code] w fun e w' => e = .returned (.int .i64 0) ∧ Below w.heap.size w w' := by
  have c5 := h.c5
  have hc' : (c == 0) = false := by simpa using hc
  clear h hc
  go_enter Tryz.func52, Tryz.ntmps52
  go_wp2
  go_ret
  exact ⟨rfl, Below.refl _ _⟩

/-- The parser behind something that has no node. -/
def Aft (w' : World) (P : Nat) (T : List Tok) (E d : Int) (tv lv : Value) (r : Except (Int × Int) (List Tok)) : Prop :=
  match r with
  | .ok l => ∃ i, T.drop i = l ∧ Ps w' P T E i d tv lv 0 0
  | .error q => q.1 ≠ 0 ∧ Ps w' P T E T.length d tv lv q.1 q.2
theorem is_lt {T : List Tok} {i : Nat} {s : List UInt8} (h : isTok s (T.drop i) = true) : i < T.length := by
  rcases Nat.lt_or_ge i T.length with h1 | h1
  · exact h1
  · rw [List.drop_eq_nil_of_le h1] at h; cases h
set_option maxRecDepth 100000 in
set_option maxHeartbeats 1600000 in
theorem rtake_ok {w : World} {P : Nat} {T : List Tok} {E : Int} {i : Nat} {d : Int} {tv lv : Value} (h : Ps w P T E i d tv lv 0 0) (S : ByteArray) :
    Calls Tryz.prog 29 #[.pointer (some ⟨P, 0, none⟩), .string S] w fun e w' => e = .returned (.tuple #[]) ∧ Aft w' P T E d tv lv (takeT E S.data.toList (T.drop i)) ∧ Only P w w' := by
  have HPS := Hid.out (p := Hid _) h
  have hfew := h.few
  have hle := h.le
  have HIS := Hid.out (p := Hid _) (ris_any h S)
  unfold takeT
  cases hi : isTok S.data.toList (T.drop i) with
  | true =>
    rw [hi] at HIS
    have hlt := is_lt hi
    clear h
    go_enter Tryz.func29, Tryz.ntmps29
    go_wp2_with (go_at_call 26; refine Calls.mono HIS.out ?_; rintro e w1 ⟨rfl, hb1⟩; have k2 := (HPS.out.below hb1).c2; have kf := (HPS.out.below hb1).free)
    go_end0
    have hs := HPS.out.below hb1
    have ho : Only P w w1 := Only.of hb1
    refine ⟨rfl, ?_, ho.set _ _⟩
    exact ⟨i + 1, rfl, HPS.out.next (ho.set _ _) hlt (heap_set9 hs.box)⟩
  | false =>
    rw [hi] at HIS
    have HF := Hid.out (p := Hid _) (fun w1 (hb1 : Below w.heap.size w w1) => rfail_ok (h.below hb1) 5)
    clear h
    go_enter Tryz.func29, Tryz.ntmps29
    go_wp2_with (first | (go_at_call 26; refine Calls.mono HIS.out ?_; rintro e w1 ⟨rfl, hb1⟩) | (go_at_call 52; refine Calls.mono (HF.out _ hb1) ?_; rintro e w2 ⟨rfl, hp2, ho2⟩))
    go_end0
    refine ⟨rfl, ?_, (Only.of hb1).trans ho2⟩
    exact ⟨show (5 : Int) ≠ 0 by decide, hp2⟩
set_option maxRecDepth 100000 in
set_option maxHeartbeats 1600000 in
theorem rtake_no {w : World} {P : Nat} {T : List Tok} {E : Int} {d : Int} {tv lv : Value} {c a : Int} (h : Ps w P T E T.length d tv lv c a) (hc : c ≠ 0) (S : ByteArray) :
    Calls Tryz.prog 29 #[.pointer (some ⟨P, 0, none⟩), .string S] w fun e w' => e = .returned (.tuple #[]) ∧ Below w.heap.size w w' := by
  have HIS := Hid.out (p := Hid _) (ris_any h S)
  have hi : isTok S.data.toList (T.drop T.length) = false := by rw [List.drop_length]; rfl
  rw [hi] at HIS
  have HF := Hid.out (p := Hid _) (fun w1 (hb1 : Below w.heap.size w w1) => rfail_no (h.below hb1) hc 5)
  clear h
  go_enter Tryz.func29, Tryz.ntmps29
  go_wp2_with (first | (go_at_call 26; refine Calls.mono HIS.out ?_; rintro e w1 ⟨rfl, hb1⟩) | (go_at_call 52; refine Calls.mono (HF.out _ hb1) ?_; rintro e w2 ⟨rfl, hb2⟩))
  go_end0
  exact ⟨rfl, hb1.trans (hb2.mono hb1.size)⟩

/-- One behind the other, where nothing failed yet. -/
def bindE {α β : Type} (s : Except (Int × Int) α) (f : α → Except (Int × Int) β) : Except (Int × Int) β :=
  match s with
  | .error q => .error q
  | .ok a => f a
/-- Does a word or sign stand next, where nothing failed yet? -/
def isE (S : List UInt8) : Except (Int × Int) (List Tok) → Bool
  | .ok l => isTok S l
  | .error _ => false
section
variable {w W : World} {P : Nat} {T : List Tok} {E : Int} {d : Int} {tv lv : Value} {s : Except (Int × Int) (List Tok)}
theorem Aft.ps (h : Aft w P T E d tv lv s) : ∃ i c a, Ps w P T E i d tv lv c a := by
  match s, h with
  | .ok l, ⟨i, _, h⟩ => exact ⟨i, 0, 0, h⟩
  | .error q, ⟨_, h⟩ => exact ⟨_, _, _, h⟩
theorem Aft.below (h : Aft w P T E d tv lv s) (hb : Below w.heap.size w W) : Aft W P T E d tv lv s := by
  match s, h with
  | .ok l, ⟨i, hi, h⟩ => exact ⟨i, hi, h.below hb⟩
  | .error q, ⟨hq, h⟩ => exact ⟨hq, h.below hb⟩
/-- Another depth. -/
theorem Aft.deep (h : Aft w P T E d tv lv s) (d' : Int) : Aft (w.setCell ⟨P, 3, none⟩ (.int .i64 d')) P T E d' tv lv s := by
  match s, h with
  | .ok l, ⟨i, hi, h⟩ => exact ⟨i, hi, h.next ((Only.refl _ _).set _ _) h.le (heap_set9 h.box)⟩
  | .error q, ⟨hq, h⟩ => exact ⟨hq, h.next ((Only.refl _ _).set _ _) h.le (heap_set9 h.box)⟩
theorem rtake_any (h : Aft w P T E d tv lv s) (S : ByteArray) :
    Calls Tryz.prog 29 #[.pointer (some ⟨P, 0, none⟩), .string S] w fun e w' => e = .returned (.tuple #[]) ∧ Aft w' P T E d tv lv (bindE s (takeT E S.data.toList)) ∧ Only P w w' := by
  match s, h with
  | .ok l, ⟨i, hi, h⟩ =>
    subst hi
    exact rtake_ok h S
  | .error q, ⟨hq, h⟩ =>
    refine (rtake_no h hq S).mono ?_
    rintro e w' ⟨rfl, hb⟩
    exact ⟨rfl, ⟨hq, h.below hb⟩, Only.of hb⟩
theorem ris_aft (h : Aft w P T E d tv lv s) (S : ByteArray) :
    Calls Tryz.prog 26 #[.pointer (some ⟨P, 0, none⟩), .string S] w fun e w' => e = .returned (.bool (isE S.data.toList s)) ∧ Below w.heap.size w w' := by
  match s, h with
  | .ok l, ⟨i, hi, h⟩ =>
    subst hi
    exact ris_any h S
  | .error q, ⟨hq, h⟩ =>
    refine (ris_any h S).mono ?_
    rintro e w' ⟨rfl, hb⟩
    exact ⟨by rw [List.drop_length]; rfl, hb⟩
end
/-- What shuts something. -/
theorem rshut_any {w : World} {P : Nat} {T : List Tok} {E : Int} {d : Int} {tv lv : Value} {s : Except (Int × Int) (List Tok)} (h : Aft w P T E d tv lv s) (S : ByteArray) :
    Calls Tryz.prog 55 #[.pointer (some ⟨P, 0, none⟩), .string S] w fun e w' => e = .returned (.tuple #[]) ∧ Aft w' P T E (wrap64 (d - 1)) tv lv (bindE s (takeT E S.data.toList)) ∧ Only P w w' := by
  have HT := Hid.out (p := Hid _) (rtake_any h S)
  clear h
  go_enter Tryz.func55, Tryz.ntmps55
  go_wp2_with (go_at_call 29; refine Calls.mono HT.out ?_; rintro e w2 ⟨rfl, hp2, ho2⟩; obtain ⟨i2, c2, a2, hq⟩ := hp2.ps; have k3 := hq.c3; have kf := hq.free; clear hq)
  go_end0
  exact ⟨rfl, hp2.deep _, ho2.set _ _⟩
theorem rfail_aft {w : World} {P : Nat} {T : List Tok} {E : Int} {d : Int} {tv lv : Value} {s : Except (Int × Int) (List Tok)} (h : Aft w P T E d tv lv s) (code : Int) (hc : code ≠ 0) :
    Calls Tryz.prog 52 #[.pointer (some ⟨P, 0, none⟩), .int .i64 code] w fun e w' => e = .returned (.int .i64 0) ∧ Aft w' P T E d tv lv (bindE s fun l => .error (code, posOf E l)) ∧ Only P w w' := by
  match s, h with
  | .ok l, ⟨i, hi, h⟩ =>
    subst hi
    refine (rfail_ok h code).mono ?_
    rintro e w' ⟨rfl, hp, ho⟩
    exact ⟨rfl, ⟨hc, hp⟩, ho⟩
  | .error q, ⟨hq, h⟩ =>
    refine (rfail_no h hq code).mono ?_
    rintro e w' ⟨rfl, hb⟩
    exact ⟨rfl, ⟨hq, h.below hb⟩, Only.of hb⟩
/-- What opens something, where it is not too deep. -/
theorem ropen_yes {w : World} {P : Nat} {T : List Tok} {E : Int} {d : Int} {tv lv : Value} {s : Except (Int × Int) (List Tok)} (h : Aft w P T E d tv lv s) (S : ByteArray) (hd : (isE S.data.toList s) = false ∨ ((isE S.data.toList s) = true ∧ d ≠ 20)) :
    Calls Tryz.prog 53 #[.pointer (some ⟨P, 0, none⟩), .string S] w fun e w' => e = .returned (.tuple #[]) ∧ Aft w' P T E (wrap64 (d + 1)) tv lv (bindE s (takeT E S.data.toList)) ∧ Only P w w' := by
  have HIS := Hid.out (p := Hid _) (ris_aft h S)
  have HT := Hid.out (p := Hid _) (fun w1 (hb1 : Below w.heap.size w w1) => rtake_any (h.below hb1) S)
  have HA : Hid (Aft w P T E d tv lv s) := h
  rcases hd with hd | ⟨hd, h20⟩
  · rw [hd] at HIS
    clear h
    go_enter Tryz.func53, Tryz.ntmps53
    go_wp2_with (first | (go_at_call 26; refine Calls.mono HIS.out ?_; rintro e w1 ⟨rfl, hb1⟩) | (go_at_call 29; refine Calls.mono (HT.out _ hb1) ?_; rintro e w2 ⟨rfl, hp2, ho2⟩; obtain ⟨i2, c2, a2, hq⟩ := hp2.ps; have k3 := hq.c3; have kf := hq.free; clear hq))
    go_end0
    exact ⟨rfl, hp2.deep _, ((Only.of hb1).trans ho2).set _ _⟩
  · rw [hd] at HIS
    have e20 : (d == 20) = false := by simpa using h20
    clear h
    go_enter Tryz.func53, Tryz.ntmps53
    go_wp2_with (first | (go_at_call 26; refine Calls.mono HIS.out ?_; rintro e w1 ⟨rfl, hb1⟩; obtain ⟨i1, c1, a1, hq1⟩ := (HA.out.below hb1).ps; have j3 := hq1.c3; clear hq1) | (go_at_call 29; refine Calls.mono (HT.out _ hb1) ?_; rintro e w2 ⟨rfl, hp2, ho2⟩; obtain ⟨i2, c2, a2, hq⟩ := hp2.ps; have k3 := hq.c3; have kf := hq.free; clear hq))
    go_end0
    exact ⟨rfl, hp2.deep _, ((Only.of hb1).trans ho2).set _ _⟩
theorem ropen_deep {w : World} {P : Nat} {T : List Tok} {E : Int} {tv lv : Value} {l : List Tok} (h : Aft w P T E 20 tv lv (.ok l)) (S : ByteArray) (hi : isTok S.data.toList l = true) :
    Calls Tryz.prog 53 #[.pointer (some ⟨P, 0, none⟩), .string S] w fun e w' => e = .returned (.tuple #[]) ∧ Aft w' P T E 20 tv lv (.error (6, posOf E l)) ∧ Only P w w' := by
  have HIS := Hid.out (p := Hid _) (ris_aft h S)
  rw [show isE S.data.toList (.ok l) = true from hi] at HIS
  have HT := Hid.out (p := Hid _) (fun w1 (hb1 : Below w.heap.size w w1) => rfail_aft (h.below hb1) 6 (by decide))
  have HA : Hid (Aft w P T E 20 tv lv (.ok l)) := h
  clear h
  go_enter Tryz.func53, Tryz.ntmps53
  go_wp2_with (first | (go_at_call 26; refine Calls.mono HIS.out ?_; rintro e w1 ⟨rfl, hb1⟩; obtain ⟨i1, c1, a1, hq1⟩ := (HA.out.below hb1).ps; have j3 := hq1.c3; clear hq1) | (go_at_call 52; refine Calls.mono (HT.out _ hb1) ?_; rintro e w2 ⟨rfl, hp2, ho2⟩))
  refine bodyPost_ret (results_none rfl _ _ _) rfl ?_
  exact ⟨rfl, hp2, (Only.of hb1).trans ho2⟩
theorem ropen_any {w : World} {P : Nat} {T : List Tok} {E : Int} {d : Int} {tv lv : Value} {s : Except (Int × Int) (List Tok)} (h : Aft w P T E d tv lv s) (S : ByteArray) (n : Nat) (hd : ∀ l, s = .ok l → d = (n : Int) ∧ n ≤ 20) :
    Calls Tryz.prog 53 #[.pointer (some ⟨P, 0, none⟩), .string S] w fun e w' => e = .returned (.tuple #[]) ∧ (∃ d', Aft w' P T E d' tv lv (bindE s (openT E S.data.toList n)) ∧ ∀ l, bindE s (openT E S.data.toList n) = .ok l → d' = ((n + 1 : Nat) : Int)) ∧ Only P w w' := by
  match s, h, hd with
  | .error q, h, _ =>
    refine (ropen_yes h S (Or.inl rfl)).mono ?_
    rintro e w' ⟨rfl, hp, ho⟩
    exact ⟨rfl, ⟨_, hp, fun l hl => by cases hl⟩, ho⟩
  | .ok l, h, hd =>
    obtain ⟨rfl, hn⟩ := hd l rfl
    by_cases hc : isTok S.data.toList l = true ∧ n = 20
    · obtain ⟨hi, rfl⟩ := hc
      refine (ropen_deep h S hi).mono ?_
      rintro e w' ⟨rfl, hp, ho⟩
      have hb : bindE (.ok l) (openT E S.data.toList 20) = .error (6, posOf E l) := by
        show openT E S.data.toList 20 l = _
        unfold openT
        rw [if_pos ⟨hi, rfl⟩]
      rw [hb]
      exact ⟨rfl, ⟨_, hp, fun l hl => by cases hl⟩, ho⟩
    · have hb : bindE (.ok l) (openT E S.data.toList n) = bindE (.ok l) (takeT E S.data.toList) := by
        show openT E S.data.toList n l = takeT E S.data.toList l
        unfold openT
        rw [if_neg hc]
      rw [hb]
      refine (ropen_yes h S ?_).mono ?_
      · cases hi : isTok S.data.toList l with
        | false => exact Or.inl hi
        | true =>
          refine Or.inr ⟨hi, fun e => hc ⟨hi, ?_⟩⟩
          omega
      · rintro e w' ⟨rfl, hp, ho⟩
        refine ⟨rfl, ⟨_, hp, fun l hl => ?_⟩, ho⟩
        unfold wrap64
        omega
end

section
open Go.RowKit

theorem nameT_yes {E : Int} {t : Tok} {r : List Tok} (h : t.kind = 1) : nameT E (t :: r) = .ok (t.text, r) := by rw [nameT, if_pos h]
theorem nameT_no {E : Int} {t : Tok} {r : List Tok} (h : ¬ t.kind = 1) : nameT E (t :: r) = .error (5, t.pos) := by rw [nameT, if_neg h]

/-- What a name leaves. -/
def namE (E : Int) : Except (Int × Int) (List Tok) → List UInt8 × Except (Int × Int) (List Tok)
  | .error q => ([], .error q)
  | .ok l => match nameT E l with
    | .error q => ([], .error q)
    | .ok (s, r) => (s, .ok r)

set_option maxRecDepth 100000 in
set_option maxHeartbeats 1600000 in
theorem rname_yes {w : World} {P : Nat} {T : List Tok} {E : Int} {i : Nat} {d : Int} {tv lv : Value} (h : Ps w P T E i d tv lv 0 0) (hlt : i < T.length) (hk : (T.getD i tok0).kind = 1) :
    Calls Tryz.prog 51 #[.pointer (some ⟨P, 0, none⟩)] w fun e w' => e = .returned (.string ⟨⟨(T.getD i tok0).text⟩⟩) ∧ Ps w' P T E (i + 1) d tv lv 0 0 ∧ Only P w w' := by
  have HPS : Hid (Ps w P T E i d tv lv 0 0) := h
  have hP := h.lt
  have hfew := h.few
  have c0 := h.c0
  have c2 := h.c2
  have kf := h.free
  obtain ⟨ta, tc, rfl⟩ := h.toks.form
  obtain ⟨g, rfl, t0, t1, t2, t3⟩ := h.toks.cells hlt
  have hg : g < w.heap.size := lt_of_cell t0
  have hgP : g ≠ P := fun e => h.apart (by rw [← e]; rfl)
  have hlt' : (i : Int) < (T.length : Int) := by omega
  obtain ⟨⟨k, v, p, t⟩, ht⟩ : ∃ x, T.getD i tok0 = x := ⟨_, rfl⟩
  rw [ht] at t0 t1 t2 t3 hk ⊢
  simp only at t0 t1 t2 t3 hk ⊢
  subst hk
  clear h ht
  go_enter Tryz.func51, Tryz.ntmps51
  go_wp2
  go_region
  go_wp2
  go_region
  go_wp2
  go_ret
  have ho : Only P w ((w.setCell ⟨P, 2, none⟩ (.int .i64 ((i : Int) + 1))).drew.drew) := (((Only.refl _ _).set _ _).drew).drew
  exact ⟨rfl, HPS.out.next ho hlt (heap_set9 HPS.out.box), ho⟩
set_option maxRecDepth 100000 in
set_option maxHeartbeats 1600000 in
theorem rname_not {w : World} {P : Nat} {T : List Tok} {E : Int} {i : Nat} {d : Int} {tv lv : Value} {c a : Int} (h : Ps w P T E i d tv lv c a) {s : Except (Int × Int) (List Tok)} (hs : Aft w P T E d tv lv s) (hk : i < T.length → (T.getD i tok0).kind ≠ 1) :
    Calls Tryz.prog 51 #[.pointer (some ⟨P, 0, none⟩)] w fun e w' => e = .returned (.string ⟨#[]⟩) ∧ Aft w' P T E d tv lv (bindE s fun l => .error (5, posOf E l)) ∧ Only P w w' := by
  have hfew := h.few
  have hle := h.le
  have c0 := h.c0
  have c2 := h.c2
  have HF := Hid.out (p := Hid _) (fun w1 (hb1 : Below w.heap.size w w1) => rfail_aft (hs.below hb1) 5 (by decide))
  obtain ⟨ta, tc, rfl⟩ := h.toks.form
  by_cases hlt : i < T.length
  · obtain ⟨g, rfl, t0, t1, t2, t3⟩ := h.toks.cells hlt
    have hlt' : (i : Int) < (T.length : Int) := by omega
    have hk1 : ((T.getD i tok0).kind == 1) = false := by simpa using hk hlt
    obtain ⟨⟨k, v, p, t⟩, ht⟩ : ∃ x, T.getD i tok0 = x := ⟨_, rfl⟩
    rw [ht] at t0 t1 t2 t3 hk1
    simp only at t0 t1 t2 t3 hk1
    clear h ht hk hs
    go_enter Tryz.func51, Tryz.ntmps51
    go_wp2
    go_region
    go_wp2_with (go_at_call 52; refine Calls.mono (HF.out _ (by first | exact (Below.refl _ _).drew.drew | exact (Below.refl _ _).drew)) ?_; rintro e w2 ⟨rfl, hp2, ho2⟩)
    go_ret
    exact ⟨rfl, hp2, (Only.of (Below.refl _ _).drew).trans ho2⟩
  · have hlt' : ¬ (i : Int) < (T.length : Int) := by omega
    clear h hk hs
    go_enter Tryz.func51, Tryz.ntmps51
    go_wp2
    go_region
    go_wp2_with (go_at_call 52; refine Calls.mono (HF.out _ (by first | exact (Below.refl _ _).drew.drew | exact (Below.refl _ _).drew)) ?_; rintro e w2 ⟨rfl, hp2, ho2⟩)
    go_ret
    exact ⟨rfl, hp2, (Only.of (Below.refl _ _).drew).trans ho2⟩

theorem rname_any {w : World} {P : Nat} {T : List Tok} {E : Int} {d : Int} {tv lv : Value} {s : Except (Int × Int) (List Tok)} (h : Aft w P T E d tv lv s) :
    Calls Tryz.prog 51 #[.pointer (some ⟨P, 0, none⟩)] w fun e w' => e = .returned (.string ⟨⟨(namE E s).1⟩⟩) ∧ Aft w' P T E d tv lv (namE E s).2 ∧ Only P w w' := by
  match s, h with
  | .error q, h =>
    refine (rname_not h.2 h (fun hlt => absurd hlt (Nat.lt_irrefl _))).mono ?_
    rintro e w' ⟨rfl, hp, ho⟩
    exact ⟨rfl, hp, ho⟩
  | .ok l, ⟨i, hi, h⟩ =>
    subst hi
    have hs : Aft w P T E d tv lv (.ok (T.drop i)) := ⟨i, rfl, h⟩
    by_cases hlt : i < T.length
    · by_cases hk : (T.getD i tok0).kind = 1
      · refine (rname_yes h hlt hk).mono ?_
        rintro e w' ⟨rfl, hp, ho⟩
        have hn : namE E (.ok (T.drop i)) = ((T.getD i tok0).text, .ok (T.drop (i + 1))) := by
          rw [getD_drop hlt]
          simp only [namE, nameT_yes hk]
        rw [hn]
        exact ⟨rfl, ⟨i + 1, rfl, hp⟩, ho⟩
      · refine (rname_not h hs (fun _ => hk)).mono ?_
        rintro e w' ⟨rfl, hp, ho⟩
        have hn : namE E (.ok (T.drop i)) = ([], bindE (.ok (T.drop i)) fun l => .error (5, posOf E l)) := by
          rw [getD_drop hlt]
          simp only [namE, nameT_no hk]
          rfl
        rw [hn]
        exact ⟨rfl, hp, ho⟩
    · refine (rname_not h hs (fun h1 => absurd h1 hlt)).mono ?_
      rintro e w' ⟨rfl, hp, ho⟩
      have hn : namE E (.ok (T.drop i)) = ([], bindE (.ok (T.drop i)) fun l => .error (5, posOf E l)) := by
        rw [List.drop_eq_nil_of_le (by omega)]
        rfl
      rw [hn]
      exact ⟨rfl, hp, ho⟩

/-- Nodes in memory: their rows, their kids' slices. -/
def nodC (x : Row × Value) : List Value := [.int .i64 x.1.kind, .int .i64 x.1.num, .int .i64 x.1.pos, .string ⟨⟨x.1.text⟩⟩, x.2]
def nodsV (l : List (Row × Value)) : List Value := l.flatMap nodC
theorem nodsV_snoc (l : List (Row × Value)) (x : Row × Value) : nodsV (l ++ [x]) = nodsV l ++ nodC x := by simp [nodsV]
def OwnN (w : World) (B : Nat) (v : Value) (l : List (Row × Value)) : Prop := w.ownsRow B 60 5 v l.length (nodsV l)
theorem infoNod : (Tryz.prog.info? 60).map (fun i => (i.zero, i.size, i.bytes)) = some (some (.agg #[.int .i64 0, .int .i64 0, .int .i64 0, .string ⟨#[]⟩, .slice none 0 0]), 5, 64) := by kernel_rfl
/-- Nothing that was there has changed, but the parser and its list of nodes. -/
structure FrN (P : Nat) (w : World) (lv : Value) (w' : World) (lv' : Value) : Prop where
  os : w'.os = w.os
  tape : w'.tape = w.tape
  output : w'.output = w.output
  size : w.heap.size ≤ w'.heap.size
  block : ∀ k, k < w.heap.size → k ≠ P → some k ≠ lv.ownBlock → w'.heap[k]? = w.heap[k]?
  own : lv'.ownBlock = lv.ownBlock ∨ ∀ g, lv'.ownBlock = some g → w.heap.size ≤ g
section
variable {P : Nat} {w V W : World} {lv lv1 lv2 : Value}
theorem FrN.of (h : Only P w W) : FrN P w lv W lv := ⟨h.os, h.tape, h.output, h.size, fun k hk hp _ => h.block k hk hp, Or.inl rfl⟩
theorem FrN.trans (h : FrN P w lv V lv1) (k : FrN P V lv1 W lv2) : FrN P w lv W lv2 := by
  refine ⟨k.os.trans h.os, k.tape.trans h.tape, k.output.trans h.output, Nat.le_trans h.size k.size, fun j hj hp hn => ?_, ?_⟩
  · refine (k.block j (Nat.lt_of_lt_of_le hj h.size) hp fun e => ?_).trans (h.block j hj hp hn)
    rcases h.own with h1 | h1
    · exact hn (e.trans h1)
    · have := h1 j e.symm
      omega
  · rcases k.own with k1 | k1
    · rcases h.own with h1 | h1
      · exact Or.inl (k1.trans h1)
      · exact Or.inr fun g hg => h1 g (k1.symm.trans hg)
    · exact Or.inr fun g hg => Nat.le_trans h.size (k1 g hg)
end
end

section
open Go.RowKit

/-- The parser with another list of nodes. -/
theorem Aft.list {w W : World} {P : Nat} {T : List Tok} {E : Int} {d : Int} {tv lv lv' : Value} {s : Except (Int × Int) (List Tok)} (h : Aft w P T E d tv lv s) (hP : ∀ cs ty, w.heap[P]? = some (.cells cs ty) → W.heap[P]? = some (.cells (cs.setIfInBounds 4 lv') ty)) (ht : ∀ g, tv.ownBlock = some g → W.heap[g]? = w.heap[g]?) : Aft W P T E d tv lv' s := by
  have key : ∀ {i : Nat} {c a : Int}, Ps w P T E i d tv lv c a → Ps W P T E i d tv lv' c a := fun q => ⟨hP _ _ q.box, fam_keeps q.toks ht, q.apart, q.le, q.few⟩
  match s, h with
  | .ok l, ⟨i, hi, h⟩ => exact ⟨i, hi, key h⟩
  | .error q, ⟨hq, h⟩ => exact ⟨hq, key h⟩

attribute [local go_sem ↓] appS_eq

set_option maxRecDepth 100000 in
set_option maxHeartbeats 1600000 in
theorem rnode_any {w : World} {B P : Nat} {T : List Tok} {E : Int} {d : Int} {tv lv : Value} {s : Except (Int × Int) (List Tok)} (h : Aft w P T E d tv lv s) {xs : List (Row × Value)} (ho : OwnN w B lv xs) (hB : B ≤ w.heap.size) (hn : xs.length ≤ 500000) (hP : lv.ownBlock ≠ some P) (ht : ∀ g, lv.ownBlock = some g → tv.ownBlock ≠ some g) (x : Row × Value) (hx : ∃ ka kn kc, x.2 = .slice ka kn kc) :
    Calls Tryz.prog 31 #[.pointer (some ⟨P, 0, none⟩), .agg #[.int .i64 x.1.kind, .int .i64 x.1.num, .int .i64 x.1.pos, .string ⟨⟨x.1.text⟩⟩, x.2]] w fun e w' => e = .returned (.int .i64 (xs.length : Int)) ∧ ∃ lv', Aft w' P T E d tv lv' s ∧ OwnN w' B lv' (xs ++ [x]) ∧ lv'.ownBlock ≠ some P ∧ FrN P w lv w' lv' := by
  obtain ⟨i, c, a, hq⟩ := h.ps
  have c4 := hq.c4
  have kf := hq.free
  clear hq
  obtain ⟨⟨k, n, p, t, ks⟩, kv⟩ := x
  simp only at hx ⊢
  obtain ⟨ka, kn, kc, rfl⟩ := hx
  obtain ⟨la, lc, rfl⟩ := owns_slice ho
  have HA : Hid (Aft w P T E d tv (.slice la xs.length lc) s) := h
  clear h
  have hPl : P < w.heap.size := lt_of_cell c4
  have hb2 : Below w.heap.size w ((w.alloc (.cells #[.int .i64 k, .int .i64 n, .int .i64 p, .string ⟨⟨t⟩⟩, .slice ka kn kc] 60)).drew) := ((Below.refl _ _).alloc (Nat.le_refl _) _).drew
  obtain ⟨g, cap, w3, r1, r2, r3, r4⟩ := app_row (T := 32) Tryz.underlying32 infoNod rfl (by omega) ho hb2 hB 1 #[.int .i64 k, .int .i64 n, .int .i64 p, .string ⟨⟨t⟩⟩, .slice ka kn kc] rfl (by simp [Value.oneCell']) (by omega) (by omega) (by omega)
  have es : ((w.alloc (.cells #[.int .i64 k, .int .i64 n, .int .i64 p, .string ⟨⟨t⟩⟩, .slice ka kn kc] 60)).drew).heap.size = w.heap.size + 1 := by simp
  rw [es] at r1 r4
  replace r1 : (AppS #[32, 32] 32 #[.slice la xs.length lc, .slice (some ⟨w.heap.size + 1, 0, none⟩) 1 1]).run Tryz.prog (((w.alloc (.cells #[.int .i64 k, .int .i64 n, .int .i64 p, .string ⟨⟨t⟩⟩, .slice ka kn kc] 60)).alloc (.cells #[.int .i64 k, .int .i64 n, .int .i64 p, .string ⟨⟨t⟩⟩, .slice ka kn kc] 60)).drew) = .ok (.slice (some ⟨g, 0, none⟩) (xs.length + 1) cap) w3 := r1
  have d4 : w3.cell? ⟨P, 4, none⟩ = some (.slice la xs.length lc) := (r3.cell_far ⟨P, 4, none⟩ (by simp; omega) (fun e => hP e.symm)).trans (cell_up (cell_drw (cell_up c4 _)) _)
  have df : ∀ j, w3.frozen? ⟨P, j, none⟩ = false := fun j => (r3.frozen_far ⟨P, j, none⟩ (by simp; omega) (fun e => hP e.symm)).trans ((hb2.alloc (by simp) _).frozen (p := ⟨P, j, none⟩) hPl |>.trans (kf j))
  have HR : Hid (w3.ownsRow B 60 5 (.slice (some ⟨g, 0, none⟩) (xs.length + 1) cap) (xs.length + 1) (nodsV xs ++ (#[.int .i64 k, .int .i64 n, .int .i64 p, .string ⟨⟨t⟩⟩, .slice ka kn kc] : Array Value).toList)) := r2
  have HG := Hid.out (p := Hid _) (And.intro r3 r4)
  clear r2 r3 r4 es hb2
  go_enter Tryz.func31, Tryz.ntmps31
  go_wp2
  go_region
  all_goals go_wp2
  go_ret
  obtain ⟨r3, r4⟩ := HG.out
  have hgP : g ≠ P := by
    rcases r4 with r4 | r4
    · exact fun e => hP (by rw [r4, e])
    · omega
  have hblk : ∀ j, j < w.heap.size → some j ≠ (Value.slice la xs.length lc).ownBlock → w3.heap[j]? = w.heap[j]? := fun j hj hne => by
    refine (r3.block j (by simp; omega) hne).trans ?_
    exact ((((Below.refl w.heap.size w).alloc (Nat.le_refl _) _).drew).alloc (by simp) _).block j hj
  have hPb : w3.heap[P]? = w.heap[P]? := hblk P hPl fun e => hP e.symm
  refine ⟨rfl, _, HA.out.list (fun cs ty hc => heap_set9 (hPb.trans hc)) (fun j hj => ?_), ?_, ?_, ?_⟩
  · obtain ⟨i2, c2, a2, hq⟩ := HA.out.ps
    have hj2 := (hq.toks.lt j hj).2
    have hjP : j ≠ P := fun e => hq.apart (by rw [hj, e])
    exact (Below.heap_setCell _ _ _ _ hjP).trans (hblk j hj2 fun e => ht j e.symm hj)
  · unfold OwnN
    rw [List.length_append, nodsV_snoc]
    exact fam_keeps HR.out fun j hj => Below.heap_setCell _ _ _ _ (by
      have : g = j := by simpa [Value.ownBlock] using hj
      rw [← this]; exact hgP)
  · intro e
    exact hgP (by simpa [Value.ownBlock] using e)
  · refine ⟨r3.os, r3.tape, r3.output, ?_, fun j hj hjP hne => (Below.heap_setCell _ _ _ _ hjP).trans (hblk j hj hne), ?_⟩
    · have := r3.size
      simp at this ⊢
      omega
    · rcases r4 with r4 | r4
      · exact Or.inl (by rw [r4]; rfl)
      · refine Or.inr fun j hj => ?_
        have : g = j := by simpa [Value.ownBlock] using hj
        omega
end

section
open Go.RowKit

def signsN : List (List UInt8) := [[124, 124], [38, 38], [61, 61], [33, 61], [60], [60, 61], [62], [62, 61], [43], [45], [42]]
theorem lvl_none {l : List UInt8} (h : ∀ c, c ∈ signsN → l ≠ c) : lvl l = -1 := by
  simp only [signsN, List.mem_cons, List.not_mem_nil, or_false, forall_eq_or_imp, forall_eq] at h
  unfold lvl
  obtain ⟨h1, h2, h3, h4, h5, h6, h7, h8, h9, h10, h11⟩ := h
  rw [if_neg h1, if_neg h2, if_neg (by simp [h3, h4, h5, h6, h7, h8]), if_neg (by simp [h9, h10]), if_neg h11]
set_option maxRecDepth 100000 in
set_option maxHeartbeats 1600000 in
theorem rlevel_any (S : ByteArray) (w : World) :
    Calls Tryz.prog 93 #[.string S] w fun e w' => e = .returned (.int .i64 (lvl S.data.toList)) ∧ w' = w := by
  by_cases hin : S.data.toList ∈ signsN
  · simp only [signsN, List.mem_cons, List.not_mem_nil, or_false] at hin
    rcases hin with h | h | h | h | h | h | h | h | h | h | h
    all_goals
      obtain rfl := str_of h
      clear h
      go_enter Tryz.func93, Tryz.ntmps93
      go_wp2
      go_ret
      exact ⟨rfl, rfl⟩
  · have hne : ∀ c, c ∈ signsN → S.data.toList ≠ c := fun c hc e => hin (e ▸ hc)
    have hq := lvl_none hne
    rw [hq]
    have hb : ∀ c, c ∈ signsN → (S.toList == c) = false := fun c hc => by
      rw [Lib.toList_data]
      simpa using hne c hc
    simp only [signsN, List.mem_cons, List.not_mem_nil, or_false, forall_eq_or_imp, forall_eq] at hb
    obtain ⟨b1, b2, b3, b4, b5, b6, b7, b8, b9, b10, b11⟩ := hb
    clear hin hne hq
    go_enter Tryz.func93, Tryz.ntmps93
    go_wp2
    go_ret
    exact ⟨rfl, rfl⟩
end

section
open Go.RowKit

/-- The parser's list of nodes. -/
structure Lst (w : World) (B P : Nat) (tv lv : Value) (xs : List (Row × Value)) : Prop where
  own : OwnN w B lv xs
  low : B ≤ w.heap.size
  apart : lv.ownBlock ≠ some P
  far : ∀ g, lv.ownBlock = some g → tv.ownBlock ≠ some g
section
variable {w W : World} {B P : Nat} {T : List Tok} {E d : Int} {tv lv : Value} {xs : List (Row × Value)} {s : Except (Int × Int) (List Tok)} {q : Int × Int}
theorem Lst.only (h : Lst w B P tv lv xs) (ho : Only P w W) : Lst W B P tv lv xs :=
  ⟨fam_keeps h.own fun g hg => ho.block g (h.own.lt g hg).2 fun e => h.apart (by rw [hg, e]), Nat.le_trans h.low ho.size, h.apart, h.far⟩
theorem Lst.below (h : Lst w B P tv lv xs) (hb : Below w.heap.size w W) : Lst W B P tv lv xs := h.only (Only.of hb)
theorem Aft.tok_lt (h : Aft w P T E d tv lv s) {g : Nat} (hg : tv.ownBlock = some g) : g < w.heap.size := by
  obtain ⟨i, c, a, hq⟩ := h.ps
  exact (hq.toks.lt g hg).2
/-- One more node. -/
theorem rnode_lst (h : Aft w P T E d tv lv s) (hl : Lst w B P tv lv xs) (hn : xs.length ≤ 500000) (k n p : Int) (t : List UInt8) (ks : List Int) (ka : Option Addr) (kn kc : Nat) :
    Calls Tryz.prog 31 #[.pointer (some ⟨P, 0, none⟩), .agg #[.int .i64 k, .int .i64 n, .int .i64 p, .string ⟨⟨t⟩⟩, .slice ka kn kc]] w fun e w' => e = .returned (.int .i64 (xs.length : Int)) ∧ ∃ lv', Aft w' P T E d tv lv' s ∧ Lst w' B P tv lv' (xs ++ [(⟨k, n, p, t, ks⟩, .slice ka kn kc)]) ∧ FrN P w lv w' lv' := by
  refine (rnode_any h hl.own hl.low hn hl.apart hl.far (⟨k, n, p, t, ks⟩, .slice ka kn kc) ⟨ka, kn, kc, rfl⟩).mono ?_
  rintro e w' ⟨rfl, lv', h1, h2, h3, h4⟩
  refine ⟨rfl, lv', h1, ⟨h2, Nat.le_trans hl.low h4.size, h3, fun g hg ht => ?_⟩, h4⟩
  rcases h4.own with h5 | h5
  · exact hl.far g (h5 ▸ hg) ht
  · have := h5 g hg
    have := h.tok_lt ht
    omega
theorem ris_err (h : Aft w P T E d tv lv (.error q)) (S : ByteArray) :
    Calls Tryz.prog 26 #[.pointer (some ⟨P, 0, none⟩), .string S] w fun e w' => e = .returned (.bool false) ∧ Below w.heap.size w w' := ris_aft h S
theorem rname_err (h : Aft w P T E d tv lv (.error q)) :
    Calls Tryz.prog 51 #[.pointer (some ⟨P, 0, none⟩)] w fun e w' => e = .returned (.string ⟨⟨[]⟩⟩) ∧ Aft w' P T E d tv lv (.error q) ∧ Only P w w' := rname_any h
theorem rat_err (h : Aft w P T E d tv lv (.error q)) :
    Calls Tryz.prog 28 #[.pointer (some ⟨P, 0, none⟩)] w fun e w' => e = .returned (.int .i64 E) ∧ Below w.heap.size w w' := by
  refine (rat_any h.2).mono ?_
  rintro e w' ⟨rfl, hb⟩
  exact ⟨by rw [List.drop_length]; rfl, hb⟩
end

set_option maxRecDepth 100000 in
set_option maxHeartbeats 1600000 in
theorem runary_err {w : World} {B P : Nat} {T : List Tok} {E d : Int} {tv lv : Value} {xs : List (Row × Value)} {q : Int × Int} (h : Aft w P T E d tv lv (.error q)) (hl : Lst w B P tv lv xs) (hn : xs.length ≤ 500000) :
    Calls Tryz.prog 92 #[.pointer (some ⟨P, 0, none⟩)] w fun e w' => ∃ v lv' x, e = .returned (.int .i64 v) ∧ Aft w' P T E d tv lv' (.error q) ∧ Lst w' B P tv lv' (xs ++ [x]) ∧ FrN P w lv w' lv' := by
  have hfr : FrN P w lv w lv := FrN.of (Only.refl _ _)
  have HC : Hid (Aft w P T E d tv lv (.error q) ∧ Lst w B P tv lv xs ∧ FrN P w lv w lv) := ⟨h, hl, hfr⟩
  obtain ⟨ta, tc, rfl⟩ := h.2.toks.form
  have hfew := h.2.few
  clear h hl hfr
  go_enter Tryz.func92, Tryz.ntmps92
  go_wp2_with (first
    | (go_at_call 28; refine Calls.mono (rat_err HC.out.1) ?_; rintro e w1 ⟨rfl, hb⟩; replace HC := Hid.out (p := Hid _) (And.intro (HC.out.1.below hb) (And.intro (HC.out.2.1.below hb) (HC.out.2.2.trans (FrN.of (Only.of hb))))); clear hb)
    | (go_at_call 26; refine Calls.mono (ris_err HC.out.1 _) ?_; rintro e w1 ⟨rfl, hb⟩; replace HC := Hid.out (p := Hid _) (And.intro (HC.out.1.below hb) (And.intro (HC.out.2.1.below hb) (HC.out.2.2.trans (FrN.of (Only.of hb))))); clear hb))
  have hP := HC.out.1.2.lt
  have c0 := HC.out.1.2.c0
  have c2 := HC.out.1.2.c2
  replace HC := Hid.out (p := Hid _) (And.intro (HC.out.1.below (Below.refl _ _).drew) (And.intro (HC.out.2.1.below (Below.refl _ _).drew) (HC.out.2.2.trans (FrN.of (Only.of (Below.refl _ _).drew)))))
  go_region
  go_wp2_with (first
    | (go_at_call 51; refine Calls.mono (rname_err HC.out.1) ?_; rintro e w2 ⟨rfl, ha, ho⟩; replace HC := Hid.out (p := Hid _) (And.intro ha (And.intro (HC.out.2.1.only ho) (HC.out.2.2.trans (FrN.of ho)))); clear ha ho)
    | (go_at_call 31; refine Calls.mono (rnode_lst HC.out.1 HC.out.2.1 hn _ _ _ _ [] _ _ _) ?_; rintro e w3 ⟨rfl, lv', ha, hl2, hf⟩; replace HC := Hid.out (p := Hid _) (And.intro ha (And.intro hl2 (HC.out.2.2.trans hf))); clear ha hl2 hf))
  go_ret
  exact ⟨_, _, _, rfl, HC.out⟩
set_option maxRecDepth 100000 in
set_option maxHeartbeats 1600000 in
theorem rexpr_err {B P : Nat} {T : List Tok} {E d : Int} {tv : Value} {xs : List (Row × Value)} {q : Int × Int} (hn : xs.length ≤ 500000) : ∀ (j k : Nat), k + j = 5 → ∀ {w : World} {lv : Value}, Aft w P T E d tv lv (.error q) → Lst w B P tv lv xs →
    Calls Tryz.prog 73 #[.pointer (some ⟨P, 0, none⟩), .int .i64 (k : Int)] w fun e w' => ∃ v lv' x, e = .returned (.int .i64 v) ∧ Aft w' P T E d tv lv' (.error q) ∧ Lst w' B P tv lv' (xs ++ [x]) ∧ FrN P w lv w' lv'
  | 0, k, hk, w, lv, h, hl => by
    have HC := Hid.out (p := Hid _) (runary_err h hl hn)
    obtain rfl : k = 5 := by omega
    clear h hl
    go_enter Tryz.func73, Tryz.ntmps73
    go_wp2_with (go_at_call 92; refine Calls.mono HC.out ?_; rintro e w1 ⟨v, lv', x, rfl, hr⟩)
    go_ret
    exact ⟨_, _, _, rfl, hr⟩
  | j + 1, k, hk, w, lv, h, hl => by
    have HC := Hid.out (p := Hid _) (rexpr_err hn j (k + 1) (by omega) h hl)
    have hk' : ((k : Int) == 5) = false := by simp; omega
    have hk2 : k ≤ 4 := by omega
    clear h hl
    go_enter Tryz.func73, Tryz.ntmps73
    go_wp2_with (go_at_call 73; refine Calls.mono HC.out ?_; rintro e w1 ⟨v, lv', x, rfl, hr⟩; have c5 := hr.1.2.c5; have hq : (q.1 == 0) = false := by simpa using hr.1.1)
    have HR := Hid.out (p := Hid _) hr
    clear hr
    go_loopw [5] (fun l wr => l = .int .i64 v ∧ wr = w1) (fun _ _ => 0)
    case atStart => exact ⟨rfl, rfl⟩
    case round =>
      obtain ⟨rfl, rfl⟩ := hrel
      go_wp2
      go_region
      go_wp2
      go_ret
      exact ⟨v, lv', x, rfl, HR.out.1.below (Below.refl _ _).drew, HR.out.2.1.below (Below.refl _ _).drew, HR.out.2.2.trans (FrN.of (Only.of (Below.refl _ _).drew))⟩
/-- What a function leaves that goes on where it failed. -/
def ErrQ (B P : Nat) (T : List Tok) (E : Int) (tv : Value) (q : Int × Int) (w : World) (lv : Value) (n : Nat) (w' : World) : Prop := ∃ d lv' xs, Aft w' P T E d tv lv' (.error q) ∧ Lst w' B P tv lv' xs ∧ xs.length ≤ n ∧ FrN P w lv w' lv'
end

end Go.Proofs.YtggfbfjdiikaeaaGreatDoor
