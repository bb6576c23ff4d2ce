/-
  The document's parser: names, nodes.
  Chapter 9 as plain functions without a bound: statements, blocks, threads.
-/
import Derived.Test.YtclnjhffcfkihaeGreatDoorSynD2
import Derived.Test.YtclnjhffcfkihaeGreatDoorSynN
namespace Go.Proofs.YtclnjhffcfkihaeGreatDoor
section
open Go.RowKit

theorem nameT_yes {E : Int} {t : Tok} {r : List Tok} (h : t.kind = 1) : nameT E (t :: r) = .ok (t.text, r) := by rw [nameT, if_pos h]
theorem nameT_no {E : Int} {t : Tok} {r : List Tok} (h : ¬ t.kind = 1) : nameT E (t :: r) = .error (5, t.pos) := by rw [nameT, if_neg h]

/-- What a name leaves. -/
def namE (E : Int) : Except (Int × Int) (List Tok) → List UInt8 × Except (Int × Int) (List Tok)
  | .error q => ([], .error q)
  | .ok l => match nameT E l with
    | .error q => ([], .error q)
    | .ok (s, r) => (s, .ok r)

set_option maxRecDepth 100000 in
set_option maxHeartbeats 1600000 in
theorem rname_yes {w : World} {P : Nat} {T : List Tok} {E : Int} {i : Nat} {d : Int} {tv lv : Value} (h : Ps w P T E i d tv lv 0 0) (hlt : i < T.length) (hk : (T.getD i tok0).kind = 1) :
    Calls Tryz.prog 35 #[.pointer (some ⟨P, 0, none⟩)] w fun e w' => e = .returned (.string ⟨⟨(T.getD i tok0).text⟩⟩) ∧ Ps w' P T E (i + 1) d tv lv 0 0 ∧ Only P w w' := by
  have HPS : Hid (Ps w P T E i d tv lv 0 0) := h
  have hP := h.lt
  have hfew := h.few
  have c0 := h.c0
  have c2 := h.c2
  have kf := h.free
  obtain ⟨ta, tc, rfl⟩ := h.toks.form
  obtain ⟨g, rfl, t0, t1, t2, t3⟩ := h.toks.cells hlt
  have hg : g < w.heap.size := lt_of_cell t0
  have hgP : g ≠ P := fun e => h.apart (by rw [← e]; rfl)
  have hlt' : (i : Int) < (T.length : Int) := by omega
  obtain ⟨⟨k, v, p, t⟩, ht⟩ : ∃ x, T.getD i tok0 = x := ⟨_, rfl⟩
  rw [ht] at t0 t1 t2 t3 hk ⊢
  simp only at t0 t1 t2 t3 hk ⊢
  subst hk
  clear h ht
  go_enter Tryz.func35, Tryz.ntmps35
  go_wp2
  go_region
  go_wp2
  go_region
  go_wp2
  go_ret
  have ho : Only P w ((w.setCell ⟨P, 2, none⟩ (.int .i64 ((i : Int) + 1))).drew.drew) := (((Only.refl _ _).set _ _).drew).drew
  exact ⟨rfl, HPS.out.next ho hlt (heap_set9 HPS.out.box), ho⟩
set_option maxRecDepth 100000 in
set_option maxHeartbeats 1600000 in
theorem rname_not {w : World} {P : Nat} {T : List Tok} {E : Int} {i : Nat} {d : Int} {tv lv : Value} {c a : Int} (h : Ps w P T E i d tv lv c a) {s : Except (Int × Int) (List Tok)} (hs : Aft w P T E d tv lv s) (hk : i < T.length → (T.getD i tok0).kind ≠ 1) :
    Calls Tryz.prog 35 #[.pointer (some ⟨P, 0, none⟩)] w fun e w' => e = .returned (.string ⟨#[]⟩) ∧ Aft w' P T E d tv lv (bindE s fun l => .error (5, posOf E l)) ∧ Only P w w' := by
  have hfew := h.few
  have hle := h.le
  have c0 := h.c0
  have c2 := h.c2
  have HF := Hid.out (p := Hid _) (fun w1 (hb1 : Below w.heap.size w w1) => rfail_aft (hs.below hb1) 5 (by decide))
  obtain ⟨ta, tc, rfl⟩ := h.toks.form
  by_cases hlt : i < T.length
  · obtain ⟨g, rfl, t0, t1, t2, t3⟩ := h.toks.cells hlt
    have hlt' : (i : Int) < (T.length : Int) := by omega
    have hk1 : ((T.getD i tok0).kind == 1) = false := by simpa using hk hlt
    obtain ⟨⟨k, v, p, t⟩, ht⟩ : ∃ x, T.getD i tok0 = x := ⟨_, rfl⟩
    rw [ht] at t0 t1 t2 t3 hk1
    simp only at t0 t1 t2 t3 hk1
    clear h ht hk hs
    go_enter Tryz.func35, Tryz.ntmps35
    go_wp2
    go_region
    go_wp2_with (go_at_call 36; refine Calls.mono (HF.out _ (by first | exact (Below.refl _ _).drew.drew | exact (Below.refl _ _).drew)) ?_; rintro e w2 ⟨rfl, hp2, ho2⟩)
    go_ret
    exact ⟨rfl, hp2, (Only.of (Below.refl _ _).drew).trans ho2⟩
  · have hlt' : ¬ (i : Int) < (T.length : Int) := by omega
    clear h hk hs
    go_enter Tryz.func35, Tryz.ntmps35
    go_wp2
    go_region
    go_wp2_with (go_at_call 36; refine Calls.mono (HF.out _ (by first | exact (Below.refl _ _).drew.drew | exact (Below.refl _ _).drew)) ?_; rintro e w2 ⟨rfl, hp2, ho2⟩)
    go_ret
    exact ⟨rfl, hp2, (Only.of (Below.refl _ _).drew).trans ho2⟩

theorem rname_any {w : World} {P : Nat} {T : List Tok} {E : Int} {d : Int} {tv lv : Value} {s : Except (Int × Int) (List Tok)} (h : Aft w P T E d tv lv s) :
    Calls Tryz.prog 35 #[.pointer (some ⟨P, 0, none⟩)] w fun e w' => e = .returned (.string ⟨⟨(namE E s).1⟩⟩) ∧ Aft w' P T E d tv lv (namE E s).2 ∧ Only P w w' := by
  match s, h with
  | .error q, h =>
    refine (rname_not h.2 h (fun hlt => absurd hlt (Nat.lt_irrefl _))).mono ?_
    rintro e w' ⟨rfl, hp, ho⟩
    exact ⟨rfl, hp, ho⟩
  | .ok l, ⟨i, hi, h⟩ =>
    subst hi
    have hs : Aft w P T E d tv lv (.ok (T.drop i)) := ⟨i, rfl, h⟩
    by_cases hlt : i < T.length
    · by_cases hk : (T.getD i tok0).kind = 1
      · refine (rname_yes h hlt hk).mono ?_
        rintro e w' ⟨rfl, hp, ho⟩
        have hn : namE E (.ok (T.drop i)) = ((T.getD i tok0).text, .ok (T.drop (i + 1))) := by
          rw [getD_drop hlt]
          simp only [namE, nameT_yes hk]
        rw [hn]
        exact ⟨rfl, ⟨i + 1, rfl, hp⟩, ho⟩
      · refine (rname_not h hs (fun _ => hk)).mono ?_
        rintro e w' ⟨rfl, hp, ho⟩
        have hn : namE E (.ok (T.drop i)) = ([], bindE (.ok (T.drop i)) fun l => .error (5, posOf E l)) := by
          rw [getD_drop hlt]
          simp only [namE, nameT_no hk]
          rfl
        rw [hn]
        exact ⟨rfl, hp, ho⟩
    · refine (rname_not h hs (fun h1 => absurd h1 hlt)).mono ?_
      rintro e w' ⟨rfl, hp, ho⟩
      have hn : namE E (.ok (T.drop i)) = ([], bindE (.ok (T.drop i)) fun l => .error (5, posOf E l)) := by
        rw [List.drop_eq_nil_of_le (by omega)]
        rfl
      rw [hn]
      exact ⟨rfl, hp, ho⟩

/-- Nodes in memory: their rows, their kids' slices. -/
def nodC (x : Row × Value) : List Value := [.int .i64 x.1.kind, .int .i64 x.1.num, .int .i64 x.1.pos, .string ⟨⟨x.1.text⟩⟩, x.2]
def nodsV (l : List (Row × Value)) : List Value := l.flatMap nodC
theorem nodsV_snoc (l : List (Row × Value)) (x : Row × Value) : nodsV (l ++ [x]) = nodsV l ++ nodC x := by simp [nodsV]
def OwnN (w : World) (B : Nat) (v : Value) (l : List (Row × Value)) : Prop := w.ownsRow B 53 5 v l.length (nodsV l)
theorem infoNod : (Tryz.prog.info? 53).map (fun i => (i.zero, i.size, i.bytes)) = some (some (.agg #[.int .i64 0, .int .i64 0, .int .i64 0, .string ⟨#[]⟩, .slice none 0 0]), 5, 64) := by kernel_rfl
/-- Nothing that was there has changed, but the parser and its list of nodes. -/
structure FrN (P : Nat) (w : World) (lv : Value) (w' : World) (lv' : Value) : Prop where
  os : w'.os = w.os
  tape : w'.tape = w.tape
  output : w'.output = w.output
  size : w.heap.size ≤ w'.heap.size
  block : ∀ k, k < w.heap.size → k ≠ P → some k ≠ lv.ownBlock → w'.heap[k]? = w.heap[k]?
  own : lv'.ownBlock = lv.ownBlock ∨ ∀ g, lv'.ownBlock = some g → w.heap.size ≤ g
section
variable {P : Nat} {w V W : World} {lv lv1 lv2 : Value}
theorem FrN.of (h : Only P w W) : FrN P w lv W lv := ⟨h.os, h.tape, h.output, h.size, fun k hk hp _ => h.block k hk hp, Or.inl rfl⟩
theorem FrN.trans (h : FrN P w lv V lv1) (k : FrN P V lv1 W lv2) : FrN P w lv W lv2 := by
  refine ⟨k.os.trans h.os, k.tape.trans h.tape, k.output.trans h.output, Nat.le_trans h.size k.size, fun j hj hp hn => ?_, ?_⟩
  · refine (k.block j (Nat.lt_of_lt_of_le hj h.size) hp fun e => ?_).trans (h.block j hj hp hn)
    rcases h.own with h1 | h1
    · exact hn (e.trans h1)
    · have := h1 j e.symm
      omega
  · rcases k.own with k1 | k1
    · rcases h.own with h1 | h1
      · exact Or.inl (k1.trans h1)
      · exact Or.inr fun g hg => h1 g (k1.symm.trans hg)
    · exact Or.inr fun g hg => Nat.le_trans h.size (k1 g hg)
end
end

section
section
variable {e : Int}
/-- What goes with a bound, and what it tells. -/
structure Tl {α : Type} (f : Nat → Option (TRes α)) (r : TRes α) : Prop where
  up : ∀ n, Le (f n) (f (n + 1))
  tot : Tot f
  is : tldT f = r
theorem Tl.some {α : Type} (r : TRes α) : Tl (fun _ => some r) r := ⟨fun _ => Le.refl _, tot_is _, tld_some⟩
theorem Tl.and {α β : Type} {f : Nat → Option (TRes α)} {x : TRes α} {g : Nat → α → List Tok → Option (TRes β)} {y : α → List Tok → TRes β} (hf : Tl f x) (hg : ∀ a l, Tl (fun n => g n a l) (y a l)) : Tl (fun n => andT (f n) (g n)) (bindT x y) := by
  have ht := tot_and hf.up (fun n a l => (hg a l).up n) hf.tot fun _ a l _ => (hg a l).tot
  refine ⟨fun n => andT_le (hf.up n) fun a l => (hg a l).up n, ht, ?_⟩
  rw [andT_is hf.up (fun n a l => (hg a l).up n) ht, hf.is]
  congr 1
  funext a l
  exact (hg a l).is
theorem Tl.then {β : Type} {x : Except (Int × Int) (List Tok)} {g : Nat → List Tok → Option (TRes β)} {y : List Tok → TRes β} (hg : ∀ l, Tl (fun n => g n l) (y l)) : Tl (fun n => thenT x (g n)) (bindL x y) := by
  have ht := tot_then (x := x) fun l _ => (hg l).tot
  refine ⟨fun n => thenT_le fun l => (hg l).up n, ht, ?_⟩
  rw [thenT_is (fun n l => (hg l).up n) ht]
  congr 1
  funext l
  exact (hg l).is
theorem Tl.name {β : Type} {x : TRes (List UInt8)} {g : Nat → List UInt8 → List Tok → Option (TRes β)} {y : List UInt8 → List Tok → TRes β} (hg : ∀ s l, Tl (fun n => g n s l) (y s l)) : Tl (fun n => nameThen x (g n)) (bindT x y) := by
  have ht := tot_name (x := x) fun s l _ => (hg s l).tot
  refine ⟨fun n => nameThen_le fun s l => (hg s l).up n, ht, ?_⟩
  rw [nameThen_is (fun n s l => (hg s l).up n) ht]
  congr 1
  funext s l
  exact (hg s l).is
theorem Tl.ite {α : Type} {c : Prop} [Decidable c] {f g : Nat → Option (TRes α)} {x y : TRes α} (hf : Tl f x) (hg : Tl g y) : Tl (fun n => if c then f n else g n) (if c then x else y) := by
  by_cases h : c
  · simp only [if_pos h]; exact hf
  · simp only [if_neg h]; exact hg
theorem Tl.next {α : Type} {f : Nat → Option (TRes α)} {r : TRes α} (h : Tl (fun n => f (n + 1)) r) (up : ∀ n, Le (f n) (f (n + 1))) : tldT f = r := by
  obtain ⟨n, q, hq⟩ := h.tot
  rw [tld_is up hq, ← h.is, tld_is (f := fun n => f (n + 1)) h.up hq]
theorem tl_expr (d : Nat) (l : List Tok) : Tl (fun n => exprF e n 0 d l) (exprT e 0 d l) := ⟨ex_up 0 l, ex_tot 0 d l (by omega), rfl⟩
theorem tl_held (d : Nat) (l : List Tok) : Tl (fun n => heldF e n d l) (heldT e d l) := ⟨he_up l, he_tot d l, rfl⟩
theorem tl_block (d : Nat) (l : List Tok) : Tl (fun n => blockF e n d l) (blockT e d l) := ⟨bl_up d l, (stmt_tot l.length l (Nat.le_refl _) d).1, rfl⟩
theorem tl_stmt (d : Nat) (l : List Tok) : Tl (fun n => stmtF e n d l) (stmtT e d l) := ⟨st_up d l, (stmt_tot l.length l (Nat.le_refl _) d).2.1, rfl⟩
theorem tl_stmts (d : Nat) (ks : List Nd) (l : List Tok) : Tl (fun n => stmtsF e n d ks l) (stmtsT e d ks l) := ⟨ss_up d ks l, (stmt_tot l.length l (Nat.le_refl _) d).2.2 ks, rfl⟩
theorem tl_threads (ks : List Nd) (l : List Tok) : Tl (fun n => threadsF e n ks l) (threadsT e ks l) := ⟨fun n => threads_le e n ks l, threads_tot l.length l (Nat.le_refl _) ks, rfl⟩
/-- An expression, and a sign behind it. -/
noncomputable def etT {β : Type} (e : Int) (d : Nat) (s : List UInt8) (l : List Tok) (f : Nd → List Tok → TRes β) : TRes β := bindT (exprT e 0 d l) fun x r => bindL (takeT e s r) fun q => f x q
theorem tl_et {β : Type} {d : Nat} {s : List UInt8} {l : List Tok} {g : Nat → Nd → List Tok → Option (TRes β)} {y : Nd → List Tok → TRes β} (hg : ∀ a l, Tl (fun n => g n a l) (y a l)) : Tl (fun n => exprThen e n d s l (g n)) (etT e d s l y) :=
  (tl_expr d l).and fun a _ => Tl.then fun q => hg a q
theorem tl_assign (d : Nat) (l : List Tok) : Tl (fun n => assignF e n d l) (bindT (nameT e l) fun s r => bindL (takeT e [61] r) fun r =>
    if isTok wCas r = true then
      bindL (takeT e wCas r) fun r => bindL (openT e [40] d r) fun r => bindT (nameT e r) fun s2 q =>
        bindL (takeT e [44] q) fun q => etT e (d + 1) [44] q fun b q => etT e (d + 1) [41] q fun c q =>
          bindL (takeT e [59] q) fun q => .ok (.mk 8 0 (posOf e l) s [.mk 16 0 (posOf e r) s2 [], b, c], q)
    else etT e d [59] r fun x q => .ok (.mk 7 0 (posOf e l) s [x], q)) :=
  Tl.name fun _ _ => Tl.then fun _ => Tl.ite
    (Tl.then fun _ => Tl.then fun _ => Tl.name fun _ _ => Tl.then fun _ => tl_et fun _ _ => tl_et fun _ _ => Tl.then fun _ => Tl.some _)
    (tl_et fun _ _ => Tl.some _)
theorem assignT_is (d : Nat) (l : List Tok) : assignT e d l = bindT (nameT e l) fun s r => bindL (takeT e [61] r) fun r =>
    if isTok wCas r = true then
      bindL (takeT e wCas r) fun r => bindL (openT e [40] d r) fun r => bindT (nameT e r) fun s2 q =>
        bindL (takeT e [44] q) fun q => etT e (d + 1) [44] q fun b q => etT e (d + 1) [41] q fun c q =>
          bindL (takeT e [59] q) fun q => .ok (.mk 8 0 (posOf e l) s [.mk 16 0 (posOf e r) s2 [], b, c], q)
    else etT e d [59] r fun x q => .ok (.mk 7 0 (posOf e l) s [x], q) := (tl_assign d l).is
theorem tl_plain (d : Nat) (l : List Tok) : Tl (fun n => plainF e n d l) (
    if wordOf l = wInt then bindT (nameT e l.tail) fun s r => bindL (takeT e [61] r) fun r => etT e d [59] r fun x q => .ok (.mk 6 0 (posOf e l) s [x], q)
    else if wordOf l = wPrint then bindT (heldT e d l.tail) fun x r => bindL (takeT e [59] r) fun q => .ok (.mk 11 0 (posOf e l) [] [x], q)
    else if wordOf l = wLock ∨ wordOf l = wUnlock then
      bindL (openT e [40] d l.tail) fun r => bindT (nameT e r) fun s r => bindL (takeT e [41] r) fun r => bindL (takeT e [59] r) fun q => .ok (.mk (if wordOf l = wLock then 12 else 13) 0 (posOf e l) s [], q)
    else if wordOf l = wFence then bindL (takeT e [59] l.tail) fun q => .ok (.mk 14 0 (posOf e l) [] [], q)
    else assignT e d l) :=
  Tl.ite (Tl.name fun _ _ => Tl.then fun _ => tl_et fun _ _ => Tl.some _)
    (Tl.ite ((tl_held d _).and fun _ _ => Tl.then fun _ => Tl.some _)
      (Tl.ite (Tl.then fun _ => Tl.name fun _ _ => Tl.then fun _ => Tl.then fun _ => Tl.some _)
        (Tl.ite (Tl.then fun _ => Tl.some _) ⟨(tl_assign d l).up, (tl_assign d l).tot, rfl⟩)))
theorem stmtT_is (d : Nat) (l : List Tok) : stmtT e d l =
    if wordOf l = wIf then bindT (heldT e d l.tail) fun x r => bindT (blockT e d r) fun b r =>
      if isTok wElse r = true then bindT (blockT e d r.tail) fun c q => .ok (.mk 9 0 (posOf e l) [] [x, b, c], q)
      else .ok (.mk 9 0 (posOf e l) [] [x, b], r)
    else if wordOf l = wWhile then bindT (heldT e d l.tail) fun x r => bindT (blockT e d r) fun b q => .ok (.mk 10 0 (posOf e l) [] [x, b], q)
    else if wordOf l = wInt then bindT (nameT e l.tail) fun s r => bindL (takeT e [61] r) fun r => etT e d [59] r fun x q => .ok (.mk 6 0 (posOf e l) s [x], q)
    else if wordOf l = wPrint then bindT (heldT e d l.tail) fun x r => bindL (takeT e [59] r) fun q => .ok (.mk 11 0 (posOf e l) [] [x], q)
    else if wordOf l = wLock ∨ wordOf l = wUnlock then
      bindL (openT e [40] d l.tail) fun r => bindT (nameT e r) fun s r => bindL (takeT e [41] r) fun r => bindL (takeT e [59] r) fun q => .ok (.mk (if wordOf l = wLock then 12 else 13) 0 (posOf e l) s [], q)
    else if wordOf l = wFence then bindL (takeT e [59] l.tail) fun q => .ok (.mk 14 0 (posOf e l) [] [], q)
    else assignT e d l := by
  refine Tl.next (f := fun n => stmtF e n d l) ?_ (st_up d l)
  have he : (fun n => stmtF e (n + 1) d l) = fun n => if wordOf l = wIf then andT (heldF e n d l.tail) fun x r => andT (blockF e n d r) fun b r =>
      if isTok wElse r = true then andT (blockF e n d r.tail) fun c q => some (.ok (Nd.mk 9 0 (posOf e l) [] [x, b, c], q))
      else some (.ok (.mk 9 0 (posOf e l) [] [x, b], r))
    else if wordOf l = wWhile then andT (heldF e n d l.tail) fun x r => andT (blockF e n d r) fun b q => some (.ok (.mk 10 0 (posOf e l) [] [x, b], q))
    else plainF e n d l := by
    funext n
    rw [stmtF]
  rw [he]
  exact Tl.ite ((tl_held d _).and fun _ _ => (tl_block d _).and fun _ _ => Tl.ite ((tl_block d _).and fun _ _ => Tl.some _) (Tl.some _))
    (Tl.ite ((tl_held d _).and fun _ _ => (tl_block d _).and fun _ _ => Tl.some _) (tl_plain d l))
theorem blockT_is (d : Nat) (l : List Tok) : blockT e d l = bindL (openT e [123] d l) fun r => bindT (stmtsT e (d + 1) [] r) fun ks q => bindL (takeT e [125] q) fun p => .ok (.mk 5 0 (posOf e l) [] ks, p) := by
  refine Tl.next (f := fun n => blockF e n d l) ?_ (bl_up d l)
  have he : (fun n => blockF e (n + 1) d l) = fun n => thenT (openT e [123] d l) fun r => andT (stmtsF e n (d + 1) [] r) fun ks q => thenT (takeT e [125] q) fun p => some (.ok (Nd.mk 5 0 (posOf e l) [] ks, p)) := by
    funext n
    rw [blockF]
  rw [he]
  exact Tl.then fun _ => (tl_stmts (d + 1) [] _).and fun _ _ => Tl.then fun _ => Tl.some _
theorem stmtsT_is (d : Nat) (ks : List Nd) (l : List Tok) : stmtsT e d ks l = if isTok [125] l = true then .ok (ks, l) else bindT (stmtT e d l) fun x r => stmtsT e d (ks ++ [x]) r := by
  refine Tl.next (f := fun n => stmtsF e n d ks l) ?_ (ss_up d ks l)
  have he : (fun n => stmtsF e (n + 1) d ks l) = fun n => if isTok [125] l = true then some (.ok (ks, l)) else andT (stmtF e n d l) fun x r => stmtsF e n d (ks ++ [x]) r := by
    funext n
    rw [stmtsF]
  rw [he]
  exact Tl.ite (Tl.some _) ((tl_stmt d l).and fun x r => tl_stmts d (ks ++ [x]) r)
theorem threadsT_is (ks : List Nd) (l : List Tok) : threadsT e ks l = if l = [] then .ok (ks, []) else bindL (takeT e wThread l) fun r => bindT (blockT e 0 r) fun b q => threadsT e (ks ++ [.mk 4 0 (posOf e l) [] [b]]) q := by
  refine Tl.next (f := fun n => threadsF e n ks l) ?_ (fun n => threads_le e n ks l)
  have he : (fun n => threadsF e (n + 1) ks l) = fun n => if l = [] then some (.ok (ks, [])) else thenT (takeT e wThread l) fun r => andT (blockF e n 0 r) fun b q => threadsF e n (ks ++ [.mk 4 0 (posOf e l) [] [b]]) q := by
    funext n
    rw [threadsF]
  rw [he]
  exact Tl.ite (Tl.some _) (Tl.then fun r => (tl_block 0 r).and fun b q => tl_threads _ q)
/-- I1, I2: a text's trees, or the fault's code and byte. -/
noncomputable def progT (e : Int) (l : List Tok) : TRes (List Nd) :=
  match globalsT e l.length [] l with
  | .error f => .error f
  | .ok (ks, r) => threadsT e ks r
noncomputable def parseT (s : List UInt8) : List Row × (Int × Int) :=
  if (scanL s).2.1 ≠ 0 then ([], (scanL s).2) else
    match progT (s.length : Int) (scanL s).1 with
    | .error f => ([], f)
    | .ok (ks, _) => if 600 < ndsSize ks + 1 then ([], (10, (s.length : Int))) else (flats 0 ks ++ [⟨1, 0, 0, [], idxs 0 ks⟩], (0, 0))
end
end

end Go.Proofs.YtclnjhffcfkihaeGreatDoor
