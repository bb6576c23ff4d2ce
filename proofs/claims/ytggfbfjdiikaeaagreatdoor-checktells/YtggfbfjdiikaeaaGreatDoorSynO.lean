/-
  Chapter 9 as plain functions without a bound: what they tell, and how each is made of the others.
  Chapter 9 as plain functions without a bound: statements, blocks, threads.
-/
import Derived.Test.YtggfbfjdiikaeaaGreatDoorSynN
namespace Go.Proofs.YtggfbfjdiikaeaaGreatDoor
section
/-- What is told by some bound. -/
noncomputable def tldT {α : Type} (f : Nat → Option (TRes α)) : TRes α := open Classical in if h : ∃ n r, f n = some r then h.choose_spec.choose else .error (0, 0)
theorem tld_is {α : Type} {f : Nat → Option (TRes α)} (h : ∀ n, Le (f n) (f (n + 1))) {n : Nat} {r : TRes α} (hr : f n = some r) : tldT f = r := by
  have hx : ∃ n r, f n = some r := ⟨n, r, hr⟩
  unfold tldT
  rw [dif_pos hx]
  exact le_same h hx.choose_spec.choose_spec hr
theorem tld_some {α : Type} {r : TRes α} : tldT (fun _ => some r) = r := tld_is (n := 0) (fun _ => Le.refl _) rfl
theorem tot_pos {α : Type} {f : Nat → Option α} (h : Tot f) (h0 : f 0 = none) : ∃ n r, f (n + 1) = some r := by
  obtain ⟨n, r, h⟩ := h
  match n, h with
  | 0, h => rw [h0] at h; cases h
  | n + 1, h => exact ⟨n, r, h⟩
/-- One behind the other. -/
def bindT {α β : Type} (x : TRes α) (f : α → List Tok → TRes β) : TRes β :=
  match x with
  | .error q => .error q
  | .ok (a, l) => f a l
def bindL {β : Type} (x : Except (Int × Int) (List Tok)) (f : List Tok → TRes β) : TRes β :=
  match x with
  | .error q => .error q
  | .ok l => f l
theorem andT_told {α β : Type} {f : Nat → Option (TRes α)} {g : Nat → α → List Tok → Option (TRes β)} (uf : ∀ n, Le (f n) (f (n + 1))) (ug : ∀ n a l, Le (g n a l) (g (n + 1) a l)) {n : Nat} {r : TRes β} (h : andT (f n) (g n) = some r) : r = bindT (tldT f) fun a l => tldT fun n => g n a l := by
  unfold andT at h
  split at h
  · cases h
  · rename_i q hq
    rw [show tldT f = .error q from tld_is uf hq]
    exact (Option.some.inj h).symm
  · rename_i a l hq
    rw [show tldT f = .ok (a, l) from tld_is uf hq]
    exact (tld_is (f := fun n => g n a l) (fun n => ug n a l) h).symm
theorem thenT_told {β : Type} {x : Except (Int × Int) (List Tok)} {g : Nat → List Tok → Option (TRes β)} (ug : ∀ n l, Le (g n l) (g (n + 1) l)) {n : Nat} {r : TRes β} (h : thenT x (g n) = some r) : r = bindL x fun l => tldT fun n => g n l := by
  unfold thenT at h
  split at h
  · exact (Option.some.inj h).symm
  · rename_i l
    exact (tld_is (f := fun n => g n l) (fun n => ug n l) h).symm
theorem nameThen_told {β : Type} {x : TRes (List UInt8)} {g : Nat → List UInt8 → List Tok → Option (TRes β)} (ug : ∀ n s l, Le (g n s l) (g (n + 1) s l)) {n : Nat} {r : TRes β} (h : nameThen x (g n) = some r) : r = bindT x fun s l => tldT fun n => g n s l := by
  unfold nameThen at h
  split at h
  · exact (Option.some.inj h).symm
  · rename_i s l
    exact (tld_is (f := fun n => g n s l) (fun n => ug n s l) h).symm

noncomputable def exprT (e : Int) (k d : Nat) (l : List Tok) : TRes Nd := tldT fun n => exprF e n k d l
noncomputable def loopT (e : Int) (k d : Nat) (x : Nd) (l : List Tok) : TRes Nd := tldT fun n => loopF e n k d x l
noncomputable def unaryT (e : Int) (d : Nat) (l : List Tok) : TRes Nd := tldT fun n => unaryF e n d l
noncomputable def heldT (e : Int) (d : Nat) (l : List Tok) : TRes Nd := tldT fun n => heldF e n d l
noncomputable def assignT (e : Int) (d : Nat) (l : List Tok) : TRes Nd := tldT fun n => assignF e n d l
noncomputable def stmtT (e : Int) (d : Nat) (l : List Tok) : TRes Nd := tldT fun n => stmtF e n d l
noncomputable def blockT (e : Int) (d : Nat) (l : List Tok) : TRes Nd := tldT fun n => blockF e n d l
noncomputable def stmtsT (e : Int) (d : Nat) (ks : List Nd) (l : List Tok) : TRes (List Nd) := tldT fun n => stmtsF e n d ks l
noncomputable def threadsT (e : Int) (ks : List Nd) (l : List Tok) : TRes (List Nd) := tldT fun n => threadsF e n ks l

section
variable {e : Int}
theorem thenT_is {β : Type} {x : Except (Int × Int) (List Tok)} {g : Nat → List Tok → Option (TRes β)} (ug : ∀ n l, Le (g n l) (g (n + 1) l)) (h : Tot fun n => thenT x (g n)) : (tldT fun n => thenT x (g n)) = bindL x fun l => tldT fun n => g n l := by
  obtain ⟨n, r, hr⟩ := h
  rw [show (tldT fun n => thenT x (g n)) = r from tld_is (fun n => thenT_le fun l => ug n l) hr]
  exact thenT_told ug hr
theorem nameThen_is {β : Type} {x : TRes (List UInt8)} {g : Nat → List UInt8 → List Tok → Option (TRes β)} (ug : ∀ n s l, Le (g n s l) (g (n + 1) s l)) (h : Tot fun n => nameThen x (g n)) : (tldT fun n => nameThen x (g n)) = bindT x fun s l => tldT fun n => g n s l := by
  obtain ⟨n, r, hr⟩ := h
  rw [show (tldT fun n => nameThen x (g n)) = r from tld_is (fun n => nameThen_le fun s l => ug n s l) hr]
  exact nameThen_told ug hr
theorem andT_is {α β : Type} {f : Nat → Option (TRes α)} {g : Nat → α → List Tok → Option (TRes β)} (uf : ∀ n, Le (f n) (f (n + 1))) (ug : ∀ n a l, Le (g n a l) (g (n + 1) a l)) (h : Tot fun n => andT (f n) (g n)) : (tldT fun n => andT (f n) (g n)) = bindT (tldT f) fun a l => tldT fun n => g n a l := by
  obtain ⟨n, r, hr⟩ := h
  rw [show (tldT fun n => andT (f n) (g n)) = r from tld_is (fun n => andT_le (uf n) fun a l => ug n a l) hr]
  exact andT_told uf ug hr
/-- The bound before. -/
theorem tld_up {α : Type} {f : Nat → Option (TRes α)} (uf : ∀ n, Le (f n) (f (n + 1))) (h : Tot f) (h0 : f 0 = none) : tldT f = tldT (fun n => f (n + 1)) := by
  obtain ⟨n, r, hr⟩ := tot_pos h h0
  rw [tld_is uf hr, tld_is (f := fun n => f (n + 1)) (fun n => uf (n + 1)) hr]
theorem tot_next {α : Type} {f : Nat → Option α} (h : Tot f) (h0 : f 0 = none) : Tot fun n => f (n + 1) := by
  obtain ⟨n, r, hr⟩ := tot_pos h h0
  exact ⟨n, r, hr⟩

theorem exprT_five (d : Nat) (l : List Tok) : exprT e 5 d l = unaryT e d l := by
  have ht := ex_tot (e := e) 5 d l (Nat.le_refl _)
  have h0 : exprF e 0 5 d l = none := by rw [exprF]
  unfold exprT unaryT
  rw [tld_up (ex_up 5 l) ht h0]
  congr 1
  funext n
  rw [exprF, if_pos rfl]
theorem exprT_low {k : Nat} (hk : k < 5) (d : Nat) (l : List Tok) : exprT e k d l = bindT (exprT e (k + 1) d l) (loopT e k d) := by
  have ht := ex_tot (e := e) k d l (by omega)
  have h0 : exprF e 0 k d l = none := by rw [exprF]
  have he : (fun n => exprF e (n + 1) k d l) = fun n => andT (exprF e n (k + 1) d l) fun x r => loopF e n k d x r := by
    funext n
    rw [exprF, if_neg (by omega)]
  have ht2 := tot_next ht h0
  rw [he] at ht2
  unfold exprT
  rw [tld_up (ex_up k l) ht h0, he]
  exact andT_is (ex_up (k + 1) l) (fun n a l => lo_up k a l n) ht2
theorem lo_tot (k d : Nat) (x : Nd) (l : List Tok) : Tot fun n => loopF e n k d x l := (expr_tot l.length l (Nat.le_refl _) d).1 k x
theorem un_tot (d : Nat) (l : List Tok) : Tot fun n => unaryF e n d l := (expr_tot l.length l (Nat.le_refl _) d).2.2.1
theorem loopT_is (k d : Nat) (x : Nd) (l : List Tok) : loopT e k d x l = match signAt k l with
    | none => .ok (x, l)
    | some (t, r) => bindT (exprT e (k + 1) d r) fun y q => loopT e k d (.mk 19 0 t.pos t.text [x, y]) q := by
  have ht := lo_tot (e := e) k d x l
  have h0 : loopF e 0 k d x l = none := by rw [loopF]
  have ht2 := tot_next ht h0
  unfold loopT
  rw [tld_up (lo_up k x l) ht h0]
  cases hs : signAt k l with
  | none =>
    have he : (fun n => loopF e (n + 1) k d x l) = fun _ => some (.ok (x, l)) := by
      funext n
      rw [loopF, hs]
    rw [he, tld_some]
  | some p =>
    obtain ⟨t, r⟩ := p
    have he : (fun n => loopF e (n + 1) k d x l) = fun n => andT (exprF e n (k + 1) d r) fun y q => loopF e n k d (.mk 19 0 t.pos t.text [x, y]) q := by
      funext n
      rw [loopF, hs]
    rw [he] at ht2 ⊢
    exact andT_is (ex_up (k + 1) r) (fun n a l => lo_up k _ l n) ht2
theorem heldT_is (d : Nat) (l : List Tok) : heldT e d l = bindL (openT e [40] d l) fun r => bindT (exprT e 0 (d + 1) r) fun x q => bindL (takeT e [41] q) fun p => .ok (x, p) := by
  have ht := he_tot (e := e) d l
  have h0 : heldF e 0 d l = none := by rw [heldF]
  have he : (fun n => heldF e (n + 1) d l) = fun n => thenT (openT e [40] d l) fun r => andT (exprF e n 0 (d + 1) r) fun x q => thenT (takeT e [41] q) fun p => some (.ok (x, p)) := by
    funext n
    rw [heldF]
  have ht2 := tot_next ht h0
  unfold heldT
  rw [tld_up (he_up l) ht h0]
  rw [he] at ht2 ⊢
  rw [thenT_is (fun n r => andT_le (ex_up 0 r n) fun _ _ => Le.refl _) ht2]
  congr 1
  funext r
  rw [andT_is (ex_up 0 r) (fun _ _ _ => Le.refl _) (tot_and (ex_up 0 r) (fun _ _ _ => Le.refl _) (ex_tot 0 (d + 1) r (by omega)) fun _ x q _ => tot_then fun p _ => tot_is _)]
  congr 1
  funext x q
  rw [thenT_is (fun _ _ => Le.refl _) (tot_then fun p _ => tot_is _)]
  congr 1
  funext p
  exact tld_some
theorem unaryT_is (d : Nat) (l : List Tok) : unaryT e d l =
    if isTok [45] l = true then bindL (openT e [45] d l) fun r => bindT (unaryT e (d + 1) r) fun x q => .ok (.mk 17 0 (posOf e l) [] [x], q)
    else if isTok [33] l = true then bindL (openT e [33] d l) fun r => bindT (unaryT e (d + 1) r) fun x q => .ok (.mk 18 0 (posOf e l) [] [x], q)
    else if isTok [40] l = true then heldT e d l
    else primT e l := by
  have ht := un_tot (e := e) d l
  have h0 : unaryF e 0 d l = none := by rw [unaryF]
  have ht2 := tot_next ht h0
  have key : ∀ (S : List UInt8) (k : Int), (Tot fun n => thenT (openT e S d l) fun r => andT (unaryF e n (d + 1) r) fun x q => some (.ok (Nd.mk k 0 (posOf e l) [] [x], q))) → (tldT fun n => thenT (openT e S d l) fun r => andT (unaryF e n (d + 1) r) fun x q => some (.ok (Nd.mk k 0 (posOf e l) [] [x], q))) = bindL (openT e S d l) fun r => bindT (unaryT e (d + 1) r) fun x q => .ok (.mk k 0 (posOf e l) [] [x], q) := fun S k ht3 => by
    rw [thenT_is (fun n r => andT_le (un_up r n) fun _ _ => Le.refl _) ht3]
    congr 1
    funext r
    rw [andT_is (un_up r) (fun _ _ _ => Le.refl _) (tot_and (un_up r) (fun _ _ _ => Le.refl _) (un_tot (d + 1) r) fun _ x q _ => tot_is _)]
    congr 1
    funext x q
    exact tld_some
  unfold unaryT at key ⊢
  rw [tld_up (un_up l) ht h0]
  split
  · rename_i h1
    have he : (fun n => unaryF e (n + 1) d l) = fun n => thenT (openT e [45] d l) fun r => andT (unaryF e n (d + 1) r) fun x q => some (.ok (.mk 17 0 (posOf e l) [] [x], q)) := by
      funext n
      rw [unaryF, if_pos h1]
    rw [he] at ht2 ⊢
    exact key _ _ ht2
  · rename_i h1
    split
    · rename_i h2
      have he : (fun n => unaryF e (n + 1) d l) = fun n => thenT (openT e [33] d l) fun r => andT (unaryF e n (d + 1) r) fun x q => some (.ok (.mk 18 0 (posOf e l) [] [x], q)) := by
        funext n
        rw [unaryF, if_neg h1, if_pos h2]
      rw [he] at ht2 ⊢
      exact key _ _ ht2
    · rename_i h2
      split
      · rename_i h3
        unfold heldT
        congr 1
        funext n
        rw [unaryF, if_neg h1, if_neg h2, if_pos h3]
      · rename_i h3
        have he : (fun n => unaryF e (n + 1) d l) = fun _ => some (primT e l) := by
          funext n
          rw [unaryF, if_neg h1, if_neg h2, if_neg h3]
        rw [he]
        exact tld_some
end
end

section
section
variable {e : Int}
/-- What goes with a bound, and what it tells. -/
structure Tl {α : Type} (f : Nat → Option (TRes α)) (r : TRes α) : Prop where
  up : ∀ n, Le (f n) (f (n + 1))
  tot : Tot f
  is : tldT f = r
theorem Tl.some {α : Type} (r : TRes α) : Tl (fun _ => some r) r := ⟨fun _ => Le.refl _, tot_is _, tld_some⟩
theorem Tl.and {α β : Type} {f : Nat → Option (TRes α)} {x : TRes α} {g : Nat → α → List Tok → Option (TRes β)} {y : α → List Tok → TRes β} (hf : Tl f x) (hg : ∀ a l, Tl (fun n => g n a l) (y a l)) : Tl (fun n => andT (f n) (g n)) (bindT x y) := by
  have ht := tot_and hf.up (fun n a l => (hg a l).up n) hf.tot fun _ a l _ => (hg a l).tot
  refine ⟨fun n => andT_le (hf.up n) fun a l => (hg a l).up n, ht, ?_⟩
  rw [andT_is hf.up (fun n a l => (hg a l).up n) ht, hf.is]
  congr 1
  funext a l
  exact (hg a l).is
theorem Tl.then {β : Type} {x : Except (Int × Int) (List Tok)} {g : Nat → List Tok → Option (TRes β)} {y : List Tok → TRes β} (hg : ∀ l, Tl (fun n => g n l) (y l)) : Tl (fun n => thenT x (g n)) (bindL x y) := by
  have ht := tot_then (x := x) fun l _ => (hg l).tot
  refine ⟨fun n => thenT_le fun l => (hg l).up n, ht, ?_⟩
  rw [thenT_is (fun n l => (hg l).up n) ht]
  congr 1
  funext l
  exact (hg l).is
theorem Tl.name {β : Type} {x : TRes (List UInt8)} {g : Nat → List UInt8 → List Tok → Option (TRes β)} {y : List UInt8 → List Tok → TRes β} (hg : ∀ s l, Tl (fun n => g n s l) (y s l)) : Tl (fun n => nameThen x (g n)) (bindT x y) := by
  have ht := tot_name (x := x) fun s l _ => (hg s l).tot
  refine ⟨fun n => nameThen_le fun s l => (hg s l).up n, ht, ?_⟩
  rw [nameThen_is (fun n s l => (hg s l).up n) ht]
  congr 1
  funext s l
  exact (hg s l).is
theorem Tl.ite {α : Type} {c : Prop} [Decidable c] {f g : Nat → Option (TRes α)} {x y : TRes α} (hf : Tl f x) (hg : Tl g y) : Tl (fun n => if c then f n else g n) (if c then x else y) := by
  by_cases h : c
  · simp only [if_pos h]; exact hf
  · simp only [if_neg h]; exact hg
theorem Tl.next {α : Type} {f : Nat → Option (TRes α)} {r : TRes α} (h : Tl (fun n => f (n + 1)) r) (up : ∀ n, Le (f n) (f (n + 1))) : tldT f = r := by
  obtain ⟨n, q, hq⟩ := h.tot
  rw [tld_is up hq, ← h.is, tld_is (f := fun n => f (n + 1)) h.up hq]
theorem tl_expr (d : Nat) (l : List Tok) : Tl (fun n => exprF e n 0 d l) (exprT e 0 d l) := ⟨ex_up 0 l, ex_tot 0 d l (by omega), rfl⟩
theorem tl_held (d : Nat) (l : List Tok) : Tl (fun n => heldF e n d l) (heldT e d l) := ⟨he_up l, he_tot d l, rfl⟩
theorem tl_block (d : Nat) (l : List Tok) : Tl (fun n => blockF e n d l) (blockT e d l) := ⟨bl_up d l, (stmt_tot l.length l (Nat.le_refl _) d).1, rfl⟩
theorem tl_stmt (d : Nat) (l : List Tok) : Tl (fun n => stmtF e n d l) (stmtT e d l) := ⟨st_up d l, (stmt_tot l.length l (Nat.le_refl _) d).2.1, rfl⟩
theorem tl_stmts (d : Nat) (ks : List Nd) (l : List Tok) : Tl (fun n => stmtsF e n d ks l) (stmtsT e d ks l) := ⟨ss_up d ks l, (stmt_tot l.length l (Nat.le_refl _) d).2.2 ks, rfl⟩
theorem tl_threads (ks : List Nd) (l : List Tok) : Tl (fun n => threadsF e n ks l) (threadsT e ks l) := ⟨fun n => threads_le e n ks l, threads_tot l.length l (Nat.le_refl _) ks, rfl⟩
/-- An expression, and a sign behind it. -/
noncomputable def etT {β : Type} (e : Int) (d : Nat) (s : List UInt8) (l : List Tok) (f : Nd → List Tok → TRes β) : TRes β := bindT (exprT e 0 d l) fun x r => bindL (takeT e s r) fun q => f x q
theorem tl_et {β : Type} {d : Nat} {s : List UInt8} {l : List Tok} {g : Nat → Nd → List Tok → Option (TRes β)} {y : Nd → List Tok → TRes β} (hg : ∀ a l, Tl (fun n => g n a l) (y a l)) : Tl (fun n => exprThen e n d s l (g n)) (etT e d s l y) :=
  (tl_expr d l).and fun a _ => Tl.then fun q => hg a q
theorem tl_assign (d : Nat) (l : List Tok) : Tl (fun n => assignF e n d l) (bindT (nameT e l) fun s r => bindL (takeT e [61] r) fun r =>
    if isTok wCas r = true then
      bindL (takeT e wCas r) fun r => bindL (openT e [40] d r) fun r => bindT (nameT e r) fun s2 q =>
        bindL (takeT e [44] q) fun q => etT e (d + 1) [44] q fun b q => etT e (d + 1) [41] q fun c q =>
          bindL (takeT e [59] q) fun q => .ok (.mk 8 0 (posOf e l) s [.mk 16 0 (posOf e r) s2 [], b, c], q)
    else etT e d [59] r fun x q => .ok (.mk 7 0 (posOf e l) s [x], q)) :=
  Tl.name fun _ _ => Tl.then fun _ => Tl.ite
    (Tl.then fun _ => Tl.then fun _ => Tl.name fun _ _ => Tl.then fun _ => tl_et fun _ _ => tl_et fun _ _ => Tl.then fun _ => Tl.some _)
    (tl_et fun _ _ => Tl.some _)
theorem assignT_is (d : Nat) (l : List Tok) : assignT e d l = bindT (nameT e l) fun s r => bindL (takeT e [61] r) fun r =>
    if isTok wCas r = true then
      bindL (takeT e wCas r) fun r => bindL (openT e [40] d r) fun r => bindT (nameT e r) fun s2 q =>
        bindL (takeT e [44] q) fun q => etT e (d + 1) [44] q fun b q => etT e (d + 1) [41] q fun c q =>
          bindL (takeT e [59] q) fun q => .ok (.mk 8 0 (posOf e l) s [.mk 16 0 (posOf e r) s2 [], b, c], q)
    else etT e d [59] r fun x q => .ok (.mk 7 0 (posOf e l) s [x], q) := (tl_assign d l).is
theorem tl_plain (d : Nat) (l : List Tok) : Tl (fun n => plainF e n d l) (
    if wordOf l = wInt then bindT (nameT e l.tail) fun s r => bindL (takeT e [61] r) fun r => etT e d [59] r fun x q => .ok (.mk 6 0 (posOf e l) s [x], q)
    else if wordOf l = wPrint then bindT (heldT e d l.tail) fun x r => bindL (takeT e [59] r) fun q => .ok (.mk 11 0 (posOf e l) [] [x], q)
    else if wordOf l = wLock ∨ wordOf l = wUnlock then
      bindL (openT e [40] d l.tail) fun r => bindT (nameT e r) fun s r => bindL (takeT e [41] r) fun r => bindL (takeT e [59] r) fun q => .ok (.mk (if wordOf l = wLock then 12 else 13) 0 (posOf e l) s [], q)
    else if wordOf l = wFence then bindL (takeT e [59] l.tail) fun q => .ok (.mk 14 0 (posOf e l) [] [], q)
    else assignT e d l) :=
  Tl.ite (Tl.name fun _ _ => Tl.then fun _ => tl_et fun _ _ => Tl.some _)
    (Tl.ite ((tl_held d _).and fun _ _ => Tl.then fun _ => Tl.some _)
      (Tl.ite (Tl.then fun _ => Tl.name fun _ _ => Tl.then fun _ => Tl.then fun _ => Tl.some _)
        (Tl.ite (Tl.then fun _ => Tl.some _) ⟨(tl_assign d l).up, (tl_assign d l).tot, rfl⟩)))
theorem stmtT_is (d : Nat) (l : List Tok) : stmtT e d l =
    if wordOf l = wIf then bindT (heldT e d l.tail) fun x r => bindT (blockT e d r) fun b r =>
      if isTok wElse r = true then bindT (blockT e d r.tail) fun c q => .ok (.mk 9 0 (posOf e l) [] [x, b, c], q)
      else .ok (.mk 9 0 (posOf e l) [] [x, b], r)
    else if wordOf l = wWhile then bindT (heldT e d l.tail) fun x r => bindT (blockT e d r) fun b q => .ok (.mk 10 0 (posOf e l) [] [x, b], q)
    else if wordOf l = wInt then bindT (nameT e l.tail) fun s r => bindL (takeT e [61] r) fun r => etT e d [59] r fun x q => .ok (.mk 6 0 (posOf e l) s [x], q)
    else if wordOf l = wPrint then bindT (heldT e d l.tail) fun x r => bindL (takeT e [59] r) fun q => .ok (.mk 11 0 (posOf e l) [] [x], q)
    else if wordOf l = wLock ∨ wordOf l = wUnlock then
      bindL (openT e [40] d l.tail) fun r => bindT (nameT e r) fun s r => bindL (takeT e [41] r) fun r => bindL (takeT e [59] r) fun q => .ok (.mk (if wordOf l = wLock then 12 else 13) 0 (posOf e l) s [], q)
    else if wordOf l = wFence then bindL (takeT e [59] l.tail) fun q => .ok (.mk 14 0 (posOf e l) [] [], q)
    else assignT e d l := by
  refine Tl.next (f := fun n => stmtF e n d l) ?_ (st_up d l)
  have he : (fun n => stmtF e (n + 1) d l) = fun n => if wordOf l = wIf then andT (heldF e n d l.tail) fun x r => andT (blockF e n d r) fun b r =>
      if isTok wElse r = true then andT (blockF e n d r.tail) fun c q => some (.ok (Nd.mk 9 0 (posOf e l) [] [x, b, c], q))
      else some (.ok (.mk 9 0 (posOf e l) [] [x, b], r))
    else if wordOf l = wWhile then andT (heldF e n d l.tail) fun x r => andT (blockF e n d r) fun b q => some (.ok (.mk 10 0 (posOf e l) [] [x, b], q))
    else plainF e n d l := by
    funext n
    rw [stmtF]
  rw [he]
  exact Tl.ite ((tl_held d _).and fun _ _ => (tl_block d _).and fun _ _ => Tl.ite ((tl_block d _).and fun _ _ => Tl.some _) (Tl.some _))
    (Tl.ite ((tl_held d _).and fun _ _ => (tl_block d _).and fun _ _ => Tl.some _) (tl_plain d l))
theorem blockT_is (d : Nat) (l : List Tok) : blockT e d l = bindL (openT e [123] d l) fun r => bindT (stmtsT e (d + 1) [] r) fun ks q => bindL (takeT e [125] q) fun p => .ok (.mk 5 0 (posOf e l) [] ks, p) := by
  refine Tl.next (f := fun n => blockF e n d l) ?_ (bl_up d l)
  have he : (fun n => blockF e (n + 1) d l) = fun n => thenT (openT e [123] d l) fun r => andT (stmtsF e n (d + 1) [] r) fun ks q => thenT (takeT e [125] q) fun p => some (.ok (Nd.mk 5 0 (posOf e l) [] ks, p)) := by
    funext n
    rw [blockF]
  rw [he]
  exact Tl.then fun _ => (tl_stmts (d + 1) [] _).and fun _ _ => Tl.then fun _ => Tl.some _
theorem stmtsT_is (d : Nat) (ks : List Nd) (l : List Tok) : stmtsT e d ks l = if isTok [125] l = true then .ok (ks, l) else bindT (stmtT e d l) fun x r => stmtsT e d (ks ++ [x]) r := by
  refine Tl.next (f := fun n => stmtsF e n d ks l) ?_ (ss_up d ks l)
  have he : (fun n => stmtsF e (n + 1) d ks l) = fun n => if isTok [125] l = true then some (.ok (ks, l)) else andT (stmtF e n d l) fun x r => stmtsF e n d (ks ++ [x]) r := by
    funext n
    rw [stmtsF]
  rw [he]
  exact Tl.ite (Tl.some _) ((tl_stmt d l).and fun x r => tl_stmts d (ks ++ [x]) r)
theorem threadsT_is (ks : List Nd) (l : List Tok) : threadsT e ks l = if l = [] then .ok (ks, []) else bindL (takeT e wThread l) fun r => bindT (blockT e 0 r) fun b q => threadsT e (ks ++ [.mk 4 0 (posOf e l) [] [b]]) q := by
  refine Tl.next (f := fun n => threadsF e n ks l) ?_ (fun n => threads_le e n ks l)
  have he : (fun n => threadsF e (n + 1) ks l) = fun n => if l = [] then some (.ok (ks, [])) else thenT (takeT e wThread l) fun r => andT (blockF e n 0 r) fun b q => threadsF e n (ks ++ [.mk 4 0 (posOf e l) [] [b]]) q := by
    funext n
    rw [threadsF]
  rw [he]
  exact Tl.ite (Tl.some _) (Tl.then fun r => (tl_block 0 r).and fun b q => tl_threads _ q)
/-- I1, I2: a text's trees, or the fault's code and byte. -/
noncomputable def progT (e : Int) (l : List Tok) : TRes (List Nd) :=
  match globalsT e l.length [] l with
  | .error f => .error f
  | .ok (ks, r) => threadsT e ks r
theorem progF_is (l : List Tok) : Tl (fun n => progF e n l) (progT e l) := by
  unfold progF progT
  cases globalsT e l.length [] l with
  | error f => exact Tl.some _
  | ok p => exact tl_threads p.1 p.2
noncomputable def parseT (s : List UInt8) : List Row × (Int × Int) :=
  if (scanL s).2.1 ≠ 0 then ([], (scanL s).2) else
    match progT (s.length : Int) (scanL s).1 with
    | .error f => ([], f)
    | .ok (ks, _) => if 600 < ndsSize ks + 1 then ([], (10, (s.length : Int))) else (flats 0 ks ++ [⟨1, 0, 0, [], idxs 0 ks⟩], (0, 0))
theorem parseT_is (s : List UInt8) : ∃ n, parseF n s = some (parseT s) := by
  obtain ⟨n, r, hr⟩ := (progF_is (e := (s.length : Int)) (scanL s).1).tot
  have h2 := tld_is (progF_is (e := (s.length : Int)) (scanL s).1).up hr
  rw [(progF_is (scanL s).1).is] at h2
  replace hr : progF (s.length : Int) n (scanL s).1 = some r := hr
  refine ⟨n, ?_⟩
  unfold parseF parseT
  split
  · rfl
  · rw [hr, h2]
    cases r with
    | error f => rfl
    | ok p => obtain ⟨ks, q⟩ := p; simp only; split <;> rfl
end
end

end Go.Proofs.YtggfbfjdiikaeaaGreatDoor
