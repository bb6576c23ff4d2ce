/-
  The document's parser: what fails, what is taken.
-/
import Derived.Test.YtclnjhffcfkihaeGreatDoorPrsC
namespace Go.Proofs.YtclnjhffcfkihaeGreatDoor
open Go.RowKit

theorem heap_set9 {w : World} {g i : Nat} {cs : Array Value} {t : TypeId} {u : Value} (h : w.heap[g]? = some (.cells cs t)) : (w.setCell ⟨g, i, none⟩ u).heap[g]? = some (.cells (cs.setIfInBounds i u) t) := by
  simp only [World.setCell, Array.getElem?_modify, if_true, h, Option.map_some]
  rfl
/-- Nothing that was there has changed, but one block. -/
structure Only (P : Nat) (w w' : World) : Prop where
  os : w'.os = w.os
  tape : w'.tape = w.tape
  output : w'.output = w.output
  size : w.heap.size ≤ w'.heap.size
  block : ∀ k, k < w.heap.size → k ≠ P → w'.heap[k]? = w.heap[k]?
section
variable {P : Nat} {w V W : World}
theorem Only.refl (P : Nat) (w : World) : Only P w w := ⟨rfl, rfl, rfl, Nat.le_refl _, fun _ _ _ => rfl⟩
theorem Only.of (h : Below w.heap.size w W) : Only P w W := ⟨h.os, h.tape, h.output, h.size, fun k hk _ => h.block k hk⟩
theorem Only.trans (h : Only P w V) (k : Only P V W) : Only P w W := ⟨k.os.trans h.os, k.tape.trans h.tape, k.output.trans h.output, Nat.le_trans h.size k.size, fun j hj hp => (k.block j (Nat.lt_of_lt_of_le hj h.size) hp).trans (h.block j hj hp)⟩
theorem Only.set (h : Only P w W) (i : Nat) (u : Value) : Only P w (W.setCell ⟨P, i, none⟩ u) := h.trans ⟨rfl, rfl, rfl, by simp, fun k _ hp => Below.heap_setCell _ _ _ _ hp⟩
theorem Only.drew (h : Only P w W) : Only P w W.drew := ⟨h.os, h.tape, h.output, h.size, h.block⟩
theorem Only.alloc (h : Only P w W) (o : Obj) : Only P w (W.alloc o) := h.trans (Only.of ((Below.refl _ _).alloc (Nat.le_refl _) o))
end
section
variable {w W : World} {P : Nat} {T : List Tok} {E : Int} {i : Nat} {d : Int} {tv lv : Value} {c a : Int}
theorem Ps.lt (h : Ps w P T E i d tv lv c a) : P < w.heap.size := lt_of_cell h.c0
theorem Ps.c6 (h : Ps w P T E i d tv lv c a) : w.cell? ⟨P, 6, none⟩ = some (.int .i64 0) := box_cell h.box rfl
theorem Ps.c7 (h : Ps w P T E i d tv lv c a) : w.cell? ⟨P, 7, none⟩ = some (.int .i64 a) := box_cell h.box rfl
theorem Ps.free (h : Ps w P T E i d tv lv c a) (k : Nat) : w.frozen? ⟨P, k, none⟩ = false := box_free h.box
theorem Ps.below (h : Ps w P T E i d tv lv c a) (hb : Below w.heap.size w W) : Ps W P T E i d tv lv c a := ⟨(hb.block P h.lt).trans h.box, h.toks.below hb, h.apart, h.le, h.few⟩
/-- The parser with other numbers. -/
theorem Ps.next (h : Ps w P T E i d tv lv c a) (ho : Only P w W) {i' : Nat} {d' : Int} {lv' : Value} {c' a' : Int} (hi : i' ≤ T.length) (hb : W.heap[P]? = some (.cells #[tv, .int .i64 E, .int .i64 (i' : Int), .int .i64 d', lv', .int .i64 c', .int .i64 0, .int .i64 a'] 48)) : Ps W P T E i' d' tv lv' c' a' :=
  ⟨hb, fam_keeps h.toks fun g hg => ho.block g (h.toks.lt g hg).2 fun e => h.apart (by rw [hg, e]), h.apart, hi, h.few⟩
end

set_option maxRecDepth 100000 in
set_option maxHeartbeats 1600000 in
theorem rfail_ok {w : World} {P : Nat} {T : List Tok} {E : Int} {i : Nat} {d : Int} {tv lv : Value} {a : Int} (h : Ps w P T E i d tv lv 0 a) (code : Int) :
    Calls Tryz.prog 36 #[.pointer (some ⟨P, 0, none⟩), .int .i64 code] w fun e w' => e = .returned (.int .i64 0) ∧ Ps w' P T E T.length d tv lv code (posOf E (T.drop i)) ∧ Only P w w' := by
  have c5 := h.c5
  have HAT := Hid.out (p := Hid _) (rat_any h)
  have HPS := Hid.out (p := Hid _) h
  have hP := h.lt
  have hfew := h.few
  obtain ⟨ta, tc, rfl⟩ := h.toks.form
  clear h
  go_enter Tryz.func36, Tryz.ntmps36
  go_wp2_with (go_at_call 20; refine Calls.mono HAT.out ?_; rintro e w1 ⟨rfl, hb1⟩; have k0 := (HPS.out.below hb1).c0; have k2 := (HPS.out.below hb1).c2; have k5 := (HPS.out.below hb1).c5; have k6 := (HPS.out.below hb1).c6; have k7 := (HPS.out.below hb1).c7; have kf := (HPS.out.below hb1).free)
  go_ret
  have hs := HPS.out.below hb1
  have ho : Only P w w1 := Only.of hb1
  exact ⟨rfl, HPS.out.next (((ho.set _ _).set _ _).set _ _ |>.set _ _) (Nat.le_refl _) (heap_set9 (heap_set9 (heap_set9 (heap_set9 hs.box)))), ((ho.set _ _).set _ _).set _ _ |>.set _ _⟩
set_option maxRecDepth 100000 in
set_option maxHeartbeats 1600000 in
theorem rfail_no {w : World} {P : Nat} {T : List Tok} {E : Int} {i : Nat} {d : Int} {tv lv : Value} {c a : Int} (h : Ps w P T E i d tv lv c a) (hc : c ≠ 0) (code : Int) :
    Calls Tryz.prog 36 #[.pointer (some ⟨P, 0, none⟩), .int .i64 code] w fun e w' => e = .returned (.int .i64 0) ∧ Below w.heap.size w w' := by
  have c5 := h.c5
  have hc' : (c == 0) = false := by simpa using hc
  clear h hc
  go_enter Tryz.func36, Tryz.ntmps36
  go_wp2
  go_ret
  exact ⟨rfl, Below.refl _ _⟩

/-- The parser behind something that has no node. -/
def Aft (w' : World) (P : Nat) (T : List Tok) (E d : Int) (tv lv : Value) (r : Except (Int × Int) (List Tok)) : Prop :=
  match r with
  | .ok l => ∃ i, T.drop i = l ∧ Ps w' P T E i d tv lv 0 0
  | .error q => q.1 ≠ 0 ∧ Ps w' P T E T.length d tv lv q.1 q.2
theorem is_lt {T : List Tok} {i : Nat} {s : List UInt8} (h : isTok s (T.drop i) = true) : i < T.length := by
  rcases Nat.lt_or_ge i T.length with h1 | h1
  · exact h1
  · rw [List.drop_eq_nil_of_le h1] at h; cases h
set_option maxRecDepth 100000 in
set_option maxHeartbeats 1600000 in
theorem rtake_ok {w : World} {P : Nat} {T : List Tok} {E : Int} {i : Nat} {d : Int} {tv lv : Value} (h : Ps w P T E i d tv lv 0 0) (S : ByteArray) :
    Calls Tryz.prog 21 #[.pointer (some ⟨P, 0, none⟩), .string S] w fun e w' => e = .returned (.tuple #[]) ∧ Aft w' P T E d tv lv (takeT E S.data.toList (T.drop i)) ∧ Only P w w' := by
  have HPS := Hid.out (p := Hid _) h
  have hfew := h.few
  have hle := h.le
  have HIS := Hid.out (p := Hid _) (ris_any h S)
  unfold takeT
  cases hi : isTok S.data.toList (T.drop i) with
  | true =>
    rw [hi] at HIS
    have hlt := is_lt hi
    clear h
    go_enter Tryz.func21, Tryz.ntmps21
    go_wp2_with (go_at_call 18; refine Calls.mono HIS.out ?_; rintro e w1 ⟨rfl, hb1⟩; have k2 := (HPS.out.below hb1).c2; have kf := (HPS.out.below hb1).free)
    go_end0
    have hs := HPS.out.below hb1
    have ho : Only P w w1 := Only.of hb1
    refine ⟨rfl, ?_, ho.set _ _⟩
    exact ⟨i + 1, rfl, HPS.out.next (ho.set _ _) hlt (heap_set9 hs.box)⟩
  | false =>
    rw [hi] at HIS
    have HF := Hid.out (p := Hid _) (fun w1 (hb1 : Below w.heap.size w w1) => rfail_ok (h.below hb1) 5)
    clear h
    go_enter Tryz.func21, Tryz.ntmps21
    go_wp2_with (first | (go_at_call 18; refine Calls.mono HIS.out ?_; rintro e w1 ⟨rfl, hb1⟩) | (go_at_call 36; refine Calls.mono (HF.out _ hb1) ?_; rintro e w2 ⟨rfl, hp2, ho2⟩))
    go_end0
    refine ⟨rfl, ?_, (Only.of hb1).trans ho2⟩
    exact ⟨show (5 : Int) ≠ 0 by decide, hp2⟩
set_option maxRecDepth 100000 in
set_option maxHeartbeats 1600000 in
theorem rtake_no {w : World} {P : Nat} {T : List Tok} {E : Int} {d : Int} {tv lv : Value} {c a : Int} (h : Ps w P T E T.length d tv lv c a) (hc : c ≠ 0) (S : ByteArray) :
    Calls Tryz.prog 21 #[.pointer (some ⟨P, 0, none⟩), .string S] w fun e w' => e = .returned (.tuple #[]) ∧ Below w.heap.size w w' := by
  have HIS := Hid.out (p := Hid _) (ris_any h S)
  have hi : isTok S.data.toList (T.drop T.length) = false := by rw [List.drop_length]; rfl
  rw [hi] at HIS
  have HF := Hid.out (p := Hid _) (fun w1 (hb1 : Below w.heap.size w w1) => rfail_no (h.below hb1) hc 5)
  clear h
  go_enter Tryz.func21, Tryz.ntmps21
  go_wp2_with (first | (go_at_call 18; refine Calls.mono HIS.out ?_; rintro e w1 ⟨rfl, hb1⟩) | (go_at_call 36; refine Calls.mono (HF.out _ hb1) ?_; rintro e w2 ⟨rfl, hb2⟩))
  go_end0
  exact ⟨rfl, hb1.trans (hb2.mono hb1.size)⟩

/-- One behind the other, where nothing failed yet. -/
def bindE {α β : Type} (s : Except (Int × Int) α) (f : α → Except (Int × Int) β) : Except (Int × Int) β :=
  match s with
  | .error q => .error q
  | .ok a => f a
/-- Does a word or sign stand next, where nothing failed yet? -/
def isE (S : List UInt8) : Except (Int × Int) (List Tok) → Bool
  | .ok l => isTok S l
  | .error _ => false
section
variable {w W : World} {P : Nat} {T : List Tok} {E : Int} {d : Int} {tv lv : Value} {s : Except (Int × Int) (List Tok)}
theorem Aft.ps (h : Aft w P T E d tv lv s) : ∃ i c a, Ps w P T E i d tv lv c a := by
  match s, h with
  | .ok l, ⟨i, _, h⟩ => exact ⟨i, 0, 0, h⟩
  | .error q, ⟨_, h⟩ => exact ⟨_, _, _, h⟩
theorem Aft.below (h : Aft w P T E d tv lv s) (hb : Below w.heap.size w W) : Aft W P T E d tv lv s := by
  match s, h with
  | .ok l, ⟨i, hi, h⟩ => exact ⟨i, hi, h.below hb⟩
  | .error q, ⟨hq, h⟩ => exact ⟨hq, h.below hb⟩
/-- Another depth. -/
theorem Aft.deep (h : Aft w P T E d tv lv s) (d' : Int) : Aft (w.setCell ⟨P, 3, none⟩ (.int .i64 d')) P T E d' tv lv s := by
  match s, h with
  | .ok l, ⟨i, hi, h⟩ => exact ⟨i, hi, h.next ((Only.refl _ _).set _ _) h.le (heap_set9 h.box)⟩
  | .error q, ⟨hq, h⟩ => exact ⟨hq, h.next ((Only.refl _ _).set _ _) h.le (heap_set9 h.box)⟩
theorem rtake_any (h : Aft w P T E d tv lv s) (S : ByteArray) :
    Calls Tryz.prog 21 #[.pointer (some ⟨P, 0, none⟩), .string S] w fun e w' => e = .returned (.tuple #[]) ∧ Aft w' P T E d tv lv (bindE s (takeT E S.data.toList)) ∧ Only P w w' := by
  match s, h with
  | .ok l, ⟨i, hi, h⟩ =>
    subst hi
    exact rtake_ok h S
  | .error q, ⟨hq, h⟩ =>
    refine (rtake_no h hq S).mono ?_
    rintro e w' ⟨rfl, hb⟩
    exact ⟨rfl, ⟨hq, h.below hb⟩, Only.of hb⟩
theorem ris_aft (h : Aft w P T E d tv lv s) (S : ByteArray) :
    Calls Tryz.prog 18 #[.pointer (some ⟨P, 0, none⟩), .string S] w fun e w' => e = .returned (.bool (isE S.data.toList s)) ∧ Below w.heap.size w w' := by
  match s, h with
  | .ok l, ⟨i, hi, h⟩ =>
    subst hi
    exact ris_any h S
  | .error q, ⟨hq, h⟩ =>
    refine (ris_any h S).mono ?_
    rintro e w' ⟨rfl, hb⟩
    exact ⟨by rw [List.drop_length]; rfl, hb⟩
end
/-- What shuts something. -/
theorem rshut_any {w : World} {P : Nat} {T : List Tok} {E : Int} {d : Int} {tv lv : Value} {s : Except (Int × Int) (List Tok)} (h : Aft w P T E d tv lv s) (S : ByteArray) :
    Calls Tryz.prog 39 #[.pointer (some ⟨P, 0, none⟩), .string S] w fun e w' => e = .returned (.tuple #[]) ∧ Aft w' P T E (wrap64 (d - 1)) tv lv (bindE s (takeT E S.data.toList)) ∧ Only P w w' := by
  have HT := Hid.out (p := Hid _) (rtake_any h S)
  clear h
  go_enter Tryz.func39, Tryz.ntmps39
  go_wp2_with (go_at_call 21; refine Calls.mono HT.out ?_; rintro e w2 ⟨rfl, hp2, ho2⟩; obtain ⟨i2, c2, a2, hq⟩ := hp2.ps; have k3 := hq.c3; have kf := hq.free; clear hq)
  go_end0
  exact ⟨rfl, hp2.deep _, ho2.set _ _⟩
theorem rfail_aft {w : World} {P : Nat} {T : List Tok} {E : Int} {d : Int} {tv lv : Value} {s : Except (Int × Int) (List Tok)} (h : Aft w P T E d tv lv s) (code : Int) (hc : code ≠ 0) :
    Calls Tryz.prog 36 #[.pointer (some ⟨P, 0, none⟩), .int .i64 code] w fun e w' => e = .returned (.int .i64 0) ∧ Aft w' P T E d tv lv (bindE s fun l => .error (code, posOf E l)) ∧ Only P w w' := by
  match s, h with
  | .ok l, ⟨i, hi, h⟩ =>
    subst hi
    refine (rfail_ok h code).mono ?_
    rintro e w' ⟨rfl, hp, ho⟩
    exact ⟨rfl, ⟨hc, hp⟩, ho⟩
  | .error q, ⟨hq, h⟩ =>
    refine (rfail_no h hq code).mono ?_
    rintro e w' ⟨rfl, hb⟩
    exact ⟨rfl, ⟨hq, h.below hb⟩, Only.of hb⟩
/-- What opens something, where it is not too deep. -/
theorem ropen_yes {w : World} {P : Nat} {T : List Tok} {E : Int} {d : Int} {tv lv : Value} {s : Except (Int × Int) (List Tok)} (h : Aft w P T E d tv lv s) (S : ByteArray) (hd : (isE S.data.toList s) = false ∨ ((isE S.data.toList s) = true ∧ d ≠ 20)) :
    Calls Tryz.prog 37 #[.pointer (some ⟨P, 0, none⟩), .string S] w fun e w' => e = .returned (.tuple #[]) ∧ Aft w' P T E (wrap64 (d + 1)) tv lv (bindE s (takeT E S.data.toList)) ∧ Only P w w' := by
  have HIS := Hid.out (p := Hid _) (ris_aft h S)
  have HT := Hid.out (p := Hid _) (fun w1 (hb1 : Below w.heap.size w w1) => rtake_any (h.below hb1) S)
  have HA : Hid (Aft w P T E d tv lv s) := h
  rcases hd with hd | ⟨hd, h20⟩
  · rw [hd] at HIS
    clear h
    go_enter Tryz.func37, Tryz.ntmps37
    go_wp2_with (first | (go_at_call 18; refine Calls.mono HIS.out ?_; rintro e w1 ⟨rfl, hb1⟩) | (go_at_call 21; refine Calls.mono (HT.out _ hb1) ?_; rintro e w2 ⟨rfl, hp2, ho2⟩; obtain ⟨i2, c2, a2, hq⟩ := hp2.ps; have k3 := hq.c3; have kf := hq.free; clear hq))
    go_end0
    exact ⟨rfl, hp2.deep _, ((Only.of hb1).trans ho2).set _ _⟩
  · rw [hd] at HIS
    have e20 : (d == 20) = false := by simpa using h20
    clear h
    go_enter Tryz.func37, Tryz.ntmps37
    go_wp2_with (first | (go_at_call 18; refine Calls.mono HIS.out ?_; rintro e w1 ⟨rfl, hb1⟩; obtain ⟨i1, c1, a1, hq1⟩ := (HA.out.below hb1).ps; have j3 := hq1.c3; clear hq1) | (go_at_call 21; refine Calls.mono (HT.out _ hb1) ?_; rintro e w2 ⟨rfl, hp2, ho2⟩; obtain ⟨i2, c2, a2, hq⟩ := hp2.ps; have k3 := hq.c3; have kf := hq.free; clear hq))
    go_end0
    exact ⟨rfl, hp2.deep _, ((Only.of hb1).trans ho2).set _ _⟩
theorem ropen_deep {w : World} {P : Nat} {T : List Tok} {E : Int} {tv lv : Value} {l : List Tok} (h : Aft w P T E 20 tv lv (.ok l)) (S : ByteArray) (hi : isTok S.data.toList l = true) :
    Calls Tryz.prog 37 #[.pointer (some ⟨P, 0, none⟩), .string S] w fun e w' => e = .returned (.tuple #[]) ∧ Aft w' P T E 20 tv lv (.error (6, posOf E l)) ∧ Only P w w' := by
  have HIS := Hid.out (p := Hid _) (ris_aft h S)
  rw [show isE S.data.toList (.ok l) = true from hi] at HIS
  have HT := Hid.out (p := Hid _) (fun w1 (hb1 : Below w.heap.size w w1) => rfail_aft (h.below hb1) 6 (by decide))
  have HA : Hid (Aft w P T E 20 tv lv (.ok l)) := h
  clear h
  go_enter Tryz.func37, Tryz.ntmps37
  go_wp2_with (first | (go_at_call 18; refine Calls.mono HIS.out ?_; rintro e w1 ⟨rfl, hb1⟩; obtain ⟨i1, c1, a1, hq1⟩ := (HA.out.below hb1).ps; have j3 := hq1.c3; clear hq1) | (go_at_call 36; refine Calls.mono (HT.out _ hb1) ?_; rintro e w2 ⟨rfl, hp2, ho2⟩))
  refine bodyPost_ret (results_none rfl _ _ _) rfl ?_
  exact ⟨rfl, hp2, (Only.of hb1).trans ho2⟩
theorem ropen_any {w : World} {P : Nat} {T : List Tok} {E : Int} {d : Int} {tv lv : Value} {s : Except (Int × Int) (List Tok)} (h : Aft w P T E d tv lv s) (S : ByteArray) (n : Nat) (hd : ∀ l, s = .ok l → d = (n : Int) ∧ n ≤ 20) :
    Calls Tryz.prog 37 #[.pointer (some ⟨P, 0, none⟩), .string S] w fun e w' => e = .returned (.tuple #[]) ∧ (∃ d', Aft w' P T E d' tv lv (bindE s (openT E S.data.toList n)) ∧ ∀ l, bindE s (openT E S.data.toList n) = .ok l → d' = ((n + 1 : Nat) : Int)) ∧ Only P w w' := by
  match s, h, hd with
  | .error q, h, _ =>
    refine (ropen_yes h S (Or.inl rfl)).mono ?_
    rintro e w' ⟨rfl, hp, ho⟩
    exact ⟨rfl, ⟨_, hp, fun l hl => by cases hl⟩, ho⟩
  | .ok l, h, hd =>
    obtain ⟨rfl, hn⟩ := hd l rfl
    by_cases hc : isTok S.data.toList l = true ∧ n = 20
    · obtain ⟨hi, rfl⟩ := hc
      refine (ropen_deep h S hi).mono ?_
      rintro e w' ⟨rfl, hp, ho⟩
      have hb : bindE (.ok l) (openT E S.data.toList 20) = .error (6, posOf E l) := by
        show openT E S.data.toList 20 l = _
        unfold openT
        rw [if_pos ⟨hi, rfl⟩]
      rw [hb]
      exact ⟨rfl, ⟨_, hp, fun l hl => by cases hl⟩, ho⟩
    · have hb : bindE (.ok l) (openT E S.data.toList n) = bindE (.ok l) (takeT E S.data.toList) := by
        show openT E S.data.toList n l = takeT E S.data.toList l
        unfold openT
        rw [if_neg hc]
      rw [hb]
      refine (ropen_yes h S ?_).mono ?_
      · cases hi : isTok S.data.toList l with
        | false => exact Or.inl hi
        | true =>
          refine Or.inr ⟨hi, fun e => hc ⟨hi, ?_⟩⟩
          omega
      · rintro e w' ⟨rfl, hp, ho⟩
        refine ⟨rfl, ⟨_, hp, fun l hl => ?_⟩, ho⟩
        unfold wrap64
        omega

end Go.Proofs.YtclnjhffcfkihaeGreatDoor
