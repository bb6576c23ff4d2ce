/-
  The document's parser: signs ahead.
-/
import Derived.Test.YtclnjhffcfkihaeGreatDoorSynF2
namespace Go.Proofs.YtclnjhffcfkihaeGreatDoor
open Go.RowKit

section
variable {E : Int} {d : Nat} {l : List Tok}
set_option maxRecDepth 100000 in
set_option maxHeartbeats 1600000 in
theorem runary_min (hd : d ≤ 20) (h1 : isTok [45] l = true) (IH : d + 1 ≤ 20 → Ctr 93 [] E (d + 1) l.tail (unaryT E (d + 1) l.tail) (ubD (d + 1))) : Ctr 93 [] E d l (unaryT E d l) (ubD d) := by
  refine ctr_of fun C w rows hE hw hg => ?_
  subst hE
  have hfw := (hg 4000).fewR
  have hT := (hg 4000).few
  have HC := Hid.out (p := Hid _) (hg 4000)
  have h2 : isTok [33] l = false := is_alone h1 (by decide)
  have H1 : Hid (isTok [45] l = true ∧ isTok [33] l = false) := ⟨h1, h2⟩
  obtain ⟨R, hR⟩ : ∃ R, R = unaryT C.E d l := ⟨_, rfl⟩
  have hR2 := hR
  rw [unaryT_is, if_pos h1] at hR2
  rw [← hR]
  have HU : Hid (4001 ≤ ubD d ∧ ubD d ≤ 5000) := by show _ ∧ _; unfold ubD; omega
  by_cases h20 : d = 20
  · have ho : openT C.E [45] d l = .error (6, posOf C.E l) := by unfold openT; rw [if_pos ⟨h1, h20⟩]
    rw [ho] at hR2
    have HR := Hid.out (p := Hid _) (And.intro hR2 ho)
    clear hg h1 h2 hR hR2 ho IH
    go_enter Tryz.func93, Tryz.ntmps93
    go_wp2_with (first
      | (go_at_call 20; refine Calls.mono (gat HC.out) ?_; rintro e w1 ⟨rfl, hg⟩; replace HC := Hid.out (p := Hid _) hg; clear hg)
      | (go_at_call 18; refine Calls.mono (gis HC.out _) ?_; rintro e w1 ⟨rfl, hg⟩; (first | rw [show isE (⟨#[45]⟩ : ByteArray).data.toList (.ok l) = true from H1.out.1] | rw [show isE (⟨#[33]⟩ : ByteArray).data.toList (.ok l) = false from H1.out.2]); replace HC := Hid.out (p := Hid _) hg; clear hg)
      | (go_at_call 37; refine Calls.mono (gopen (HC.out.box _) (Nat.le_refl _) hd _) ?_; rintro e w2 ⟨rfl, hg⟩; replace hg : GoS C w2 (d + 1) 4000 _ [] (openT C.E [45] d l) rows := hg; rw [HR.out.2] at hg; obtain ⟨i, d1, lv, a, hps, _, _⟩ := hg.ps9; have c5 := hps.c5; have HG := Hid.out (p := Hid _) hg; clear hg hps; replace c5 : w2.cell? ⟨C.P, 5, none⟩ = some (.int .i64 6) := c5))
    go_ret
    refine ⟨_, rfl, ?_⟩
    rw [HR.out.1]
    exact ((HG.out.drop.more (by have := HU.out; omega)).err _ _)
  · have ho : openT C.E [45] d l = .ok l.tail := by unfold openT takeT; rw [if_neg (fun h => h20 h.2), if_pos h1]
    rw [ho] at hR2
    have HR := Hid.out (p := Hid _) (And.intro hR2 ho)
    have hln : l.tail.length < l.length := is_len h1
    have HI := Hid.out (p := Hid _) (IH (by omega))
    have HSZ : Hid (∀ x q, unaryT C.E (d + 1) l.tail = .ok (x, q) → ndSize x + q.length ≤ l.tail.length) := fun x q hx => by
      obtain ⟨n, r, hr⟩ := un_tot (e := C.E) (d + 1) l.tail
      have h3 := tld_is (un_up l.tail) hr
      exact (expr_size n).2.2.1 _ _ _ _ (hr.trans (congrArg some (h3.symm.trans hx)))
    have HFW : Hid (∀ q, resE (unaryT C.E (d + 1) l.tail) = .ok q → (rowsE rows (unaryT C.E (d + 1) l.tail)).length + 1 + q.length ≤ C.T.length) := fun q hq => by
      have hz := HSZ.out
      cases hu : unaryT C.E (d + 1) l.tail with
      | error q2 => rw [hu] at hq; cases hq
      | ok y =>
        obtain ⟨x, q2⟩ := y
        rw [hu] at hq
        cases hq
        have := hz x q hu
        rw [rowsE, List.length_append, flat_len]
        omega
    clear hg h1 h2 hR hR2 ho IH
    go_enter Tryz.func93, Tryz.ntmps93
    go_wp2_with (first
      | (go_at_call 20; refine Calls.mono (gat HC.out) ?_; rintro e w1 ⟨rfl, hg⟩; replace HC := Hid.out (p := Hid _) hg; clear hg)
      | (go_at_call 18; refine Calls.mono (gis HC.out _) ?_; rintro e w1 ⟨rfl, hg⟩; (first | rw [show isE (⟨#[45]⟩ : ByteArray).data.toList (.ok l) = true from H1.out.1] | rw [show isE (⟨#[33]⟩ : ByteArray).data.toList (.ok l) = false from H1.out.2]); replace HC := Hid.out (p := Hid _) hg; clear hg)
      | (go_at_call 37; refine Calls.mono (gopen (HC.out.box _) (Nat.le_refl _) hd _) ?_; rintro e w2 ⟨rfl, hg⟩; replace hg : GoS C w2 (d + 1) 4000 _ [] (openT C.E [45] d l) rows := hg; rw [HR.out.2] at hg; obtain ⟨i, d1, lv, a, hps, _, _⟩ := hg.ps9; have c5 := hps.c5; have HG := Hid.out (p := Hid _) hg; clear hg hps; replace c5 : w2.cell? ⟨C.P, 5, none⟩ = some (.int .i64 0) := c5)
      | (go_at_call 93; refine Calls.mono (HI.out C _ _ _ _ _ rfl HG.out) ?_; rintro e w3 ⟨v, rfl, hq⟩; have hg := hq.go; obtain ⟨i3, d3, lv3, a3, hp3, _, _⟩ := hg.ps9; have k3 := hp3.c3; have kf := hp3.free; obtain ⟨hb3, hbP⟩ := hg.bxc; have hbP2 : ¬ C.P = _ := (fun e => hbP e.symm); obtain ⟨b0, b1, b2, b3, b4, bf⟩ := box5 hb3; have hbl := lt_of_cell b0; have hPl := hp3.lt; have HQ := Hid.out (p := Hid _) (And.intro hq (hg.deep hd hp3)); clear hq hg hp3 hb3))
    refine Calls.mono (gnode ((HQ.out.2.setb 4 _).kids [v] 1 rfl (Nat.le_refl _) #[.int .i64 v] rfl (by decide) w3.heap.size (by rw [set_size, set_size])) (by unfold ubD; omega) _ _ _ [] [v] _ _ _ (fun _ _ => Or.inl (List.mem_cons_self ..)) HFW.out) ?_
    rintro e w4 ⟨v4, rfl, hv4, hg4⟩
    go_wp2_with fail
    go_ret
    refine ⟨_, rfl, ?_⟩
    rw [HR.out.1]
    obtain ⟨hq, -⟩ := HQ.out
    have hsz := HSZ.out
    simp only [bindL]
    generalize unaryT C.E (d + 1) l.tail = U at hq hv4 hg4 hsz ⊢
    cases U with
    | error q => exact ((hg4.drop.more (M' := ubD d) (by unfold ubD; omega)).err _ _)
    | ok y =>
      obtain ⟨x, q⟩ := y
      have hv := hq.val
      have h5 := hv4 q rfl
      subst hv
      refine ⟨?_, ?_⟩
      · rw [h5, size_one, rowsE, List.length_append, flat_len]
        omega
      · have h6 := hg4.drop.any (ubD d)
        have h7 : rows ++ flat rows.length (.mk 17 0 (posOf C.E l) [] [x]) = rowsE rows (.ok (x, q)) ++ [⟨17, 0, posOf C.E l, [], [((rows.length + ndSize x : Nat) : Int) - 1]⟩] := by
          simp [rowsE, flat, flats, idxs]
        rw [h7]
        exact h6
set_option maxRecDepth 100000 in
set_option maxHeartbeats 1600000 in
theorem runary_not (hd : d ≤ 20) (h1 : isTok [33] l = true) (IH : d + 1 ≤ 20 → Ctr 93 [] E (d + 1) l.tail (unaryT E (d + 1) l.tail) (ubD (d + 1))) : Ctr 93 [] E d l (unaryT E d l) (ubD d) := by
  refine ctr_of fun C w rows hE hw hg => ?_
  subst hE
  have hfw := (hg 4000).fewR
  have hT := (hg 4000).few
  have HC := Hid.out (p := Hid _) (hg 4000)
  have h2 : isTok [45] l = false := is_alone h1 (by decide)
  have H1 : Hid (isTok [33] l = true ∧ isTok [45] l = false) := ⟨h1, h2⟩
  obtain ⟨R, hR⟩ : ∃ R, R = unaryT C.E d l := ⟨_, rfl⟩
  have hR2 := hR
  rw [unaryT_is, if_neg (by rw [h2]; decide), if_pos h1] at hR2
  rw [← hR]
  have HU : Hid (4001 ≤ ubD d ∧ ubD d ≤ 5000) := by show _ ∧ _; unfold ubD; omega
  by_cases h20 : d = 20
  · have ho : openT C.E [33] d l = .error (6, posOf C.E l) := by unfold openT; rw [if_pos ⟨h1, h20⟩]
    rw [ho] at hR2
    have HR := Hid.out (p := Hid _) (And.intro hR2 ho)
    clear hg h1 h2 hR hR2 ho IH
    go_enter Tryz.func93, Tryz.ntmps93
    go_wp2_with (first
      | (go_at_call 20; refine Calls.mono (gat HC.out) ?_; rintro e w1 ⟨rfl, hg⟩; replace HC := Hid.out (p := Hid _) hg; clear hg)
      | (go_at_call 18; refine Calls.mono (gis HC.out _) ?_; rintro e w1 ⟨rfl, hg⟩; (first | rw [show isE (⟨#[33]⟩ : ByteArray).data.toList (.ok l) = true from H1.out.1] | rw [show isE (⟨#[45]⟩ : ByteArray).data.toList (.ok l) = false from H1.out.2]); replace HC := Hid.out (p := Hid _) hg; clear hg)
      | (go_at_call 37; refine Calls.mono (gopen (HC.out.box _) (Nat.le_refl _) hd _) ?_; rintro e w2 ⟨rfl, hg⟩; replace hg : GoS C w2 (d + 1) 4000 _ [] (openT C.E [33] d l) rows := hg; rw [HR.out.2] at hg; obtain ⟨i, d1, lv, a, hps, _, _⟩ := hg.ps9; have c5 := hps.c5; have HG := Hid.out (p := Hid _) hg; clear hg hps; replace c5 : w2.cell? ⟨C.P, 5, none⟩ = some (.int .i64 6) := c5))
    go_ret
    refine ⟨_, rfl, ?_⟩
    rw [HR.out.1]
    exact ((HG.out.drop.more (by have := HU.out; omega)).err _ _)
  · have ho : openT C.E [33] d l = .ok l.tail := by unfold openT takeT; rw [if_neg (fun h => h20 h.2), if_pos h1]
    rw [ho] at hR2
    have HR := Hid.out (p := Hid _) (And.intro hR2 ho)
    have hln : l.tail.length < l.length := is_len h1
    have HI := Hid.out (p := Hid _) (IH (by omega))
    have HSZ : Hid (∀ x q, unaryT C.E (d + 1) l.tail = .ok (x, q) → ndSize x + q.length ≤ l.tail.length) := fun x q hx => by
      obtain ⟨n, r, hr⟩ := un_tot (e := C.E) (d + 1) l.tail
      have h3 := tld_is (un_up l.tail) hr
      exact (expr_size n).2.2.1 _ _ _ _ (hr.trans (congrArg some (h3.symm.trans hx)))
    have HFW : Hid (∀ q, resE (unaryT C.E (d + 1) l.tail) = .ok q → (rowsE rows (unaryT C.E (d + 1) l.tail)).length + 1 + q.length ≤ C.T.length) := fun q hq => by
      have hz := HSZ.out
      cases hu : unaryT C.E (d + 1) l.tail with
      | error q2 => rw [hu] at hq; cases hq
      | ok y =>
        obtain ⟨x, q2⟩ := y
        rw [hu] at hq
        cases hq
        have := hz x q hu
        rw [rowsE, List.length_append, flat_len]
        omega
    clear hg h1 h2 hR hR2 ho IH
    go_enter Tryz.func93, Tryz.ntmps93
    go_wp2_with (first
      | (go_at_call 20; refine Calls.mono (gat HC.out) ?_; rintro e w1 ⟨rfl, hg⟩; replace HC := Hid.out (p := Hid _) hg; clear hg)
      | (go_at_call 18; refine Calls.mono (gis HC.out _) ?_; rintro e w1 ⟨rfl, hg⟩; (first | rw [show isE (⟨#[33]⟩ : ByteArray).data.toList (.ok l) = true from H1.out.1] | rw [show isE (⟨#[45]⟩ : ByteArray).data.toList (.ok l) = false from H1.out.2]); replace HC := Hid.out (p := Hid _) hg; clear hg)
      | (go_at_call 37; refine Calls.mono (gopen (HC.out.box _) (Nat.le_refl _) hd _) ?_; rintro e w2 ⟨rfl, hg⟩; replace hg : GoS C w2 (d + 1) 4000 _ [] (openT C.E [33] d l) rows := hg; rw [HR.out.2] at hg; obtain ⟨i, d1, lv, a, hps, _, _⟩ := hg.ps9; have c5 := hps.c5; have HG := Hid.out (p := Hid _) hg; clear hg hps; replace c5 : w2.cell? ⟨C.P, 5, none⟩ = some (.int .i64 0) := c5)
      | (go_at_call 93; refine Calls.mono (HI.out C _ _ _ _ _ rfl HG.out) ?_; rintro e w3 ⟨v, rfl, hq⟩; have hg := hq.go; obtain ⟨i3, d3, lv3, a3, hp3, _, _⟩ := hg.ps9; have k3 := hp3.c3; have kf := hp3.free; obtain ⟨hb3, hbP⟩ := hg.bxc; have hbP2 : ¬ C.P = _ := (fun e => hbP e.symm); obtain ⟨b0, b1, b2, b3, b4, bf⟩ := box5 hb3; have hbl := lt_of_cell b0; have hPl := hp3.lt; have HQ := Hid.out (p := Hid _) (And.intro hq (hg.deep hd hp3)); clear hq hg hp3 hb3))
    refine Calls.mono (gnode ((HQ.out.2.setb 4 _).kids [v] 1 rfl (Nat.le_refl _) #[.int .i64 v] rfl (by decide) w3.heap.size (by rw [set_size, set_size])) (by unfold ubD; omega) _ _ _ [] [v] _ _ _ (fun _ _ => Or.inl (List.mem_cons_self ..)) HFW.out) ?_
    rintro e w4 ⟨v4, rfl, hv4, hg4⟩
    go_wp2_with fail
    go_ret
    refine ⟨_, rfl, ?_⟩
    rw [HR.out.1]
    obtain ⟨hq, -⟩ := HQ.out
    have hsz := HSZ.out
    simp only [bindL]
    generalize unaryT C.E (d + 1) l.tail = U at hq hv4 hg4 hsz ⊢
    cases U with
    | error q => exact ((hg4.drop.more (M' := ubD d) (by unfold ubD; omega)).err _ _)
    | ok y =>
      obtain ⟨x, q⟩ := y
      have hv := hq.val
      have h5 := hv4 q rfl
      subst hv
      refine ⟨?_, ?_⟩
      · rw [h5, size_one, rowsE, List.length_append, flat_len]
        omega
      · have h6 := hg4.drop.any (ubD d)
        have h7 : rows ++ flat rows.length (.mk 18 0 (posOf C.E l) [] [x]) = rowsE rows (.ok (x, q)) ++ [⟨18, 0, posOf C.E l, [], [((rows.length + ndSize x : Nat) : Int) - 1]⟩] := by
          simp [rowsE, flat, flats, idxs]
        rw [h7]
        exact h6
theorem runary_held (h3 : isTok [40] l = true) (H : Ctr 67 [] E d l (heldT E d l) (ubD d)) : Ctr 93 [] E d l (heldT E d l) (ubD d) := by
  refine ctr_of fun C w rows hE hw hg => ?_
  subst hE
  have HC := Hid.out (p := Hid _) (hg 4000)
  have H1 : Hid (isTok [45] l = false ∧ isTok [33] l = false ∧ isTok [40] l = true) := ⟨is_alone h3 (by decide), is_alone h3 (by decide), h3⟩
  have HH := Hid.out (p := Hid _) H
  clear hg h3 H
  go_enter Tryz.func93, Tryz.ntmps93
  go_wp2_with (first
    | (go_at_call 20; refine Calls.mono (gat HC.out) ?_; rintro e w1 ⟨rfl, hg⟩; replace HC := Hid.out (p := Hid _) hg; clear hg)
    | (go_at_call 18; refine Calls.mono (gis HC.out _) ?_; rintro e w1 ⟨rfl, hg⟩; (first | rw [show isE (⟨#[45]⟩ : ByteArray).data.toList (.ok l) = false from H1.out.1] | rw [show isE (⟨#[33]⟩ : ByteArray).data.toList (.ok l) = false from H1.out.2.1] | rw [show isE (⟨#[40]⟩ : ByteArray).data.toList (.ok l) = true from H1.out.2.2]); replace HC := Hid.out (p := Hid _) hg; clear hg)
    | (go_at_call 67; refine Calls.mono (HH.out C _ _ _ _ _ rfl HC.out) ?_; rintro e w3 ⟨v, rfl, hq⟩))
  go_ret
  exact ⟨_, rfl, hq⟩
end

end Go.Proofs.YtclnjhffcfkihaeGreatDoor
