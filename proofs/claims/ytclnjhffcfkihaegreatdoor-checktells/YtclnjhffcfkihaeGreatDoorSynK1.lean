/-
  Trees that stand in rows; how long what is printed of them is.
  Programs that may be, and of what their names are: chapter 10 as plain functions of trees.
  The document's parser: every global.
  What a row's list of variables gives.
-/
import Derived.Test.YtclnjhffcfkihaeGreatDoorSynE
import Derived.Test.YtclnjhffcfkihaeGreatDoorSynY
import Derived.Test.YtclnjhffcfkihaeGreatDoorSynH4
import Derived.Test.YtclnjhffcfkihaeGreatDoorSynG
import Derived.Test.YtclnjhffcfkihaeGreatDoorLexA8
import Derived.ProofKit
import Derived.OpenShut
import Derived.Lay
import Derived.Deep.DeepHandedRow
import Derived.Stop.LaidErr
import Derived.Lib.LaidTab
import Derived.Shelf.Vars
namespace Go.Proofs.YtclnjhffcfkihaeGreatDoor
section
theorem size_pos (x : Nd) : 1 ≤ ndSize x := by
  cases x with
  | mk k n p t ks => rw [ndSize]; omega
theorem lvl_len {t : List UInt8} (h : 0 ≤ lvl t) : t.length ≤ 2 := by
  unfold lvl at h
  split at h
  · rename_i e; rw [e]; decide
  · split at h
    · rename_i e; rw [e]; decide
    · split at h
      · rename_i e; rcases e with e | e | e | e | e | e <;> (rw [e]; decide)
      · split at h
        · rename_i e; rcases e with e | e <;> (rw [e]; decide)
        · split at h
          · rename_i e; rw [e]; decide
          · omega
/-- What an expression is. -/
theorem wfx_cases {x : Nd} (h : WfX x) : (∃ n p, x = .mk 15 n p [] [] ∧ 0 ≤ n ∧ n ≤ 999999999) ∨ (∃ p t, x = .mk 16 0 p t [] ∧ NameOk t) ∨ (∃ k p a, x = .mk k 0 p [] [a] ∧ (k = 17 ∨ k = 18) ∧ WfX a) ∨ (∃ p t a b, x = .mk 19 0 p t [a, b] ∧ 0 ≤ lvl t ∧ WfX a ∧ WfX b) := by
  match x, h with
  | .mk k n p t ks, h =>
    unfold WfX at h
    rcases h with ⟨rfl, h0, h9, rfl, rfl⟩ | ⟨hk, rfl, hw⟩
    · exact Or.inl ⟨n, p, rfl, h0, h9⟩
    · match ks, hw with
      | [], hw => exact Or.inr (Or.inl ⟨p, t, by rw [hw.1], hw.2⟩)
      | [a], hw => exact Or.inr (Or.inr (Or.inl ⟨k, p, a, by rw [hw.2.1], hw.1, hw.2.2⟩))
      | [a, b], hw => exact Or.inr (Or.inr (Or.inr ⟨p, t, a, b, by rw [hw.1], hw.2⟩))
end

section
/-- A row by its number. -/
def rowA (rows : List Row) (i : Nat) : Row := rows.getD i ⟨0, 0, 0, [], []⟩
/-- What is known: scopes, the innermost first, each with the nodes that made names, the last first; how many of a kind; of what each name is. -/
structure Cs where
  sc : List (List Nat)
  cn : Int → Nat
  us : List Int
abbrev CRes := Except (Int × Int) Cs
def CRes.and (x : CRes) (f : Cs → CRes) : CRes := match x with
  | .error e => .error e
  | .ok s => f s
/-- The nearest node that made a name. -/
def findC (rows : List Row) (sc : List (List Nat)) (t : List UInt8) : Option Nat := sc.flatten.find? fun d => decide ((rowA rows d).text = t)
def twiceC (rows : List Row) (s : Cs) (i : Nat) : Bool := (s.sc.headD []).any fun d => decide ((rowA rows d).text = (rowA rows i).text)
/-- One more name of the innermost scope. -/
def pushC (s : Cs) (i : Nat) : Cs := { s with sc := (i :: s.sc.headD []) :: s.sc.tail }
/-- One more of a kind. -/
def moreC (s : Cs) (k : Int) : Cs := { s with cn := fun q => if q = k then s.cn k + 1 else s.cn q }
def putC (rows : List Row) (i : Nat) (s : Cs) : CRes := if twiceC rows s i then .error (8, (rowA rows i).pos) else .ok (pushC s i)
def mostC (rows : List Row) (i : Nat) (m : Nat) (s : Cs) : CRes := if m ≤ s.cn (rowA rows i).kind then .error (1, (rowA rows i).pos) else .ok (moreC s (rowA rows i).kind)
/-- A name of a node that is of some kinds. -/
def useC (rows : List Row) (i : Nat) (p : Int → Bool) (s : Cs) : CRes := match findC rows s.sc (rowA rows i).text with
  | none => .error (7, (rowA rows i).pos)
  | some d => if p (rowA rows d).kind then .ok { s with us := s.us.set i (d : Int) } else .error (9, (rowA rows i).pos)
def isVar (k : Int) : Bool := k == 2 || k == 6
def isLok (k : Int) : Bool := k == 3
def isGlo (k : Int) : Bool := k == 2
/-- What is asked of a node itself. -/
def lookC (rows : List Row) (k : Int) (i : Nat) (s : Cs) : CRes :=
  if k = 2 then (putC rows i s).and (mostC rows i 16)
  else if k = 3 then (putC rows i s).and (mostC rows i 4)
  else if k = 4 then mostC rows i 4 s
  else if k = 6 then putC rows i s
  else if k = 16 ∨ k = 7 ∨ k = 8 then useC rows i isVar s
  else if k = 12 ∨ k = 13 then useC rows i isLok s
  else .ok s
mutual
/-- A tree whose nodes are numbered from b on. -/
def ckN (rows : List Row) : Nd → Nat → Cs → CRes
  | .mk k _ _ _ ks, b, s => if k = 5 then ((ckNs rows false ks b { s with sc := [] :: s.sc }).and fun s' => .ok { s' with sc := s'.sc.tail }).and (lookC rows k (b + ndsSize ks)) else (ckNs rows (k == 8) ks b s).and (lookC rows k (b + ndsSize ks))
/-- .. trees one behind the other; where c stands, the first one is a name that is to be of a global. -/
def ckNs (rows : List Row) (c : Bool) : List Nd → Nat → Cs → CRes
  | [], _, s => .ok s
  | x :: r, b, s => (if c then useC rows (b + ndSize x - 1) isGlo s else ckN rows x b s).and (ckNs rows false r (b + ndSize x))
end
def cs0 (n : Nat) : Cs := ⟨[[]], fun _ => 0, List.replicate n (-1)⟩
/-- Check's answer of a program. -/
def checkC (ks : List Nd) : Except (Int × Int) (List Int) := match ckNs (rowsP ks) false ks 0 (cs0 (rowsP ks).length) with
  | .error f => .error f
  | .ok s => if s.cn 4 = 0 then .error (1, 0) else .ok s.us

/-- A tree's rows stand in rows, from b on. -/
def FAt (rows : List Row) (x : Nd) (b : Nat) : Prop := ∃ pre post, rows = pre ++ flat b x ++ post ∧ pre.length = b
def FsAt (rows : List Row) (ks : List Nd) (b : Nat) : Prop := ∃ pre post, rows = pre ++ flats b ks ++ post ∧ pre.length = b
section
variable {rows : List Row}
theorem FAt.kids {k n p : Int} {t : List UInt8} {ks : List Nd} {b : Nat} (h : FAt rows (.mk k n p t ks) b) : FsAt rows ks b := by
  obtain ⟨pre, post, rfl, hl⟩ := h
  rw [flat]
  exact ⟨pre, [⟨k, n, p, t, idxs b ks⟩] ++ post, by simp, hl⟩
theorem FAt.row {k n p : Int} {t : List UInt8} {ks : List Nd} {b : Nat} (h : FAt rows (.mk k n p t ks) b) : rows[b + ndsSize ks]? = some ⟨k, n, p, t, idxs b ks⟩ := by
  obtain ⟨pre, post, rfl, hl⟩ := h
  rw [flat, ← hl, ← flats_len ks pre.length, ← List.length_append, ← List.append_assoc, List.append_assoc (pre ++ flats pre.length ks), List.getElem?_append_right (Nat.le_refl _), Nat.sub_self]
  rfl
theorem FAt.rowA {k n p : Int} {t : List UInt8} {ks : List Nd} {b : Nat} (h : FAt rows (.mk k n p t ks) b) : rowA rows (b + ndsSize ks) = ⟨k, n, p, t, idxs b ks⟩ := by
  unfold Go.Proofs.YtclnjhffcfkihaeGreatDoor.rowA
  rw [List.getD_eq_getElem?_getD, h.row]
  rfl
theorem FAt.lt {x : Nd} {b : Nat} (h : FAt rows x b) : b + ndSize x ≤ rows.length := by
  obtain ⟨pre, post, rfl, hl⟩ := h
  rw [List.length_append, List.length_append, flat_len]
  omega
theorem FsAt.head {x : Nd} {r : List Nd} {b : Nat} (h : FsAt rows (x :: r) b) : FAt rows x b ∧ FsAt rows r (b + ndSize x) := by
  obtain ⟨pre, post, rfl, hl⟩ := h
  rw [flats]
  refine ⟨⟨pre, flats (b + ndSize x) r ++ post, by simp, hl⟩, ⟨pre ++ flat b x, post, by simp, by rw [List.length_append, flat_len, hl]⟩⟩
theorem FsAt.all (ks : List Nd) : FsAt (rowsP ks) ks 0 := ⟨[], [⟨1, 0, 0, [], idxs 0 ks⟩], by simp [rowsP], rfl⟩

/-- What is well of what is known. -/
structure CsOk (rows : List Row) (s : Cs) : Prop where
  mem : ∀ S, S ∈ s.sc → ∀ d, d ∈ S → d < rows.length ∧ ((rowA rows d).kind = 2 ∨ (rowA rows d).kind = 3 ∨ (rowA rows d).kind = 6)
  one : ∀ S, S ∈ s.sc → S.Pairwise fun d e => (rowA rows d).text ≠ (rowA rows e).text
  ne : s.sc ≠ []
  us : s.us.length = rows.length
  cn : ∀ k, s.cn k ≤ 16
  c4 : s.cn 3 ≤ 4 ∧ s.cn 4 ≤ 4
theorem find_mem {sc : List (List Nat)} {t : List UInt8} {d : Nat} (h : findC rows sc t = some d) : (∃ S, S ∈ sc ∧ d ∈ S) ∧ (rowA rows d).text = t := by
  unfold findC at h
  have h1 := List.mem_of_find?_eq_some h
  have h2 := List.find?_some h
  refine ⟨?_, by simpa using h2⟩
  rw [List.mem_flatten] at h1
  exact h1
theorem CRes.and_ok {x : CRes} {f : Cs → CRes} {s : Cs} (h : x.and f = .ok s) : ∃ s1, x = .ok s1 ∧ f s1 = .ok s := by
  cases x with
  | error e => cases h
  | ok s1 => exact ⟨s1, rfl, h⟩
/-- From one state to a later one: outer scopes stay, the innermost grows by at most m names. -/
structure Grw (rows : List Row) (m : Nat) (s s' : Cs) : Prop where
  sc : s'.sc.tail = s.sc.tail
  hd : ∃ T, s'.sc.headD [] = T ++ s.sc.headD [] ∧ T.length ≤ m
  ok : CsOk rows s → CsOk rows s'
  ne : s.sc ≠ [] → s'.sc ≠ []
theorem Grw.refl (s : Cs) : Grw rows 0 s s := ⟨rfl, ⟨[], rfl, Nat.le_refl _⟩, id, id⟩
theorem Grw.mono {m m' : Nat} {s s' : Cs} (h : Grw rows m s s') (hm : m ≤ m') : Grw rows m' s s' := by
  obtain ⟨T, e, hl⟩ := h.hd
  exact ⟨h.sc, ⟨T, e, Nat.le_trans hl hm⟩, h.ok, h.ne⟩
theorem Grw.trans {m m' : Nat} {s s' s'' : Cs} (h : Grw rows m s s') (k : Grw rows m' s' s'') : Grw rows (m + m') s s'' := by
  obtain ⟨T, e, hl⟩ := h.hd
  obtain ⟨T', e', hl'⟩ := k.hd
  exact ⟨k.sc.trans h.sc, ⟨T' ++ T, by rw [e', e, List.append_assoc], by rw [List.length_append]; omega⟩, fun q => k.ok (h.ok q), fun q => k.ne (h.ne q)⟩
theorem sc_cons {s : Cs} (h : s.sc ≠ []) : s.sc = s.sc.headD [] :: s.sc.tail := by
  cases e : s.sc with
  | nil => exact absurd e h
  | cons a r => rfl
theorem put_ok {i : Nat} {s s' : Cs} (h : putC rows i s = .ok s') (hi : i < rows.length) (hk : (rowA rows i).kind = 2 ∨ (rowA rows i).kind = 3 ∨ (rowA rows i).kind = 6) : Grw rows 1 s s' ∧ s'.cn = s.cn := by
  unfold putC at h
  split at h
  · cases h
  · rename_i ht
    obtain rfl := (Except.ok.inj h).symm
    refine ⟨⟨rfl, ⟨[i], rfl, Nat.le_refl _⟩, fun q => ?_, fun _ => by simp [pushC]⟩, rfl⟩
    have hsc := sc_cons q.ne
    refine ⟨?_, ?_, by simp [pushC], q.us, q.cn, q.c4⟩
    · intro S hS d hd
      rcases List.mem_cons.1 hS with rfl | hS
      · rcases List.mem_cons.1 hd with rfl | hd
        · exact ⟨hi, hk⟩
        · exact q.mem _ (by rw [hsc]; exact List.mem_cons_self ..) d hd
      · exact q.mem S (by rw [hsc]; exact List.mem_cons_of_mem _ hS) d hd
    · intro S hS
      rcases List.mem_cons.1 hS with rfl | hS
      · refine List.Pairwise.cons (fun e he hc => ht ?_) (q.one _ (by rw [hsc]; exact List.mem_cons_self ..))
        unfold twiceC
        rw [List.any_eq_true]
        exact ⟨e, he, by simpa using hc.symm⟩
      · exact q.one S (by rw [hsc]; exact List.mem_cons_of_mem _ hS)
theorem most_ok {i m : Nat} {s s' : Cs} (h : mostC rows i m s = .ok s') (hm : m ≤ 16) (hm4 : (rowA rows i).kind = 2 ∨ m ≤ 4) : Grw rows 0 s s' := by
  unfold mostC at h
  split at h
  · cases h
  · rename_i ht
    obtain rfl := (Except.ok.inj h).symm
    refine ⟨rfl, ⟨[], rfl, Nat.le_refl _⟩, fun q => ⟨q.mem, q.one, q.ne, q.us, fun k => ?_, ?_, ?_⟩, id⟩
    · show (if k = _ then _ else _) ≤ 16
      split
      · omega
      · exact q.cn k
    · show (if (3 : Int) = _ then _ else _) ≤ 4
      split
      · omega
      · exact q.c4.1
    · show (if (4 : Int) = _ then _ else _) ≤ 4
      split
      · omega
      · exact q.c4.2
theorem use_ok {i : Nat} {p : Int → Bool} {s s' : Cs} (h : useC rows i p s = .ok s') : Grw rows 0 s s' := by
  unfold useC at h
  split at h
  · cases h
  · split at h
    · obtain rfl := (Except.ok.inj h).symm
      exact ⟨rfl, ⟨[], rfl, Nat.le_refl _⟩, fun q => ⟨q.mem, q.one, q.ne, by simp [q.us], q.cn, q.c4⟩, id⟩
    · cases h
theorem look_ok {i : Nat} {k : Int} {s s' : Cs} (h : lookC rows k i s = .ok s') (hi : i < rows.length) (hk : (rowA rows i).kind = k) : Grw rows 1 s s' := by
  unfold lookC at h
  split at h
  · rename_i h2
    obtain ⟨s1, h3, h4⟩ := CRes.and_ok h
    exact (put_ok h3 hi (Or.inl (by omega))).1.trans (most_ok h4 (by decide) (Or.inl (by omega)))
  · split at h
    · rename_i h2
      obtain ⟨s1, h3, h4⟩ := CRes.and_ok h
      exact (put_ok h3 hi (Or.inr (Or.inl (by omega)))).1.trans (most_ok h4 (by decide) (Or.inr (by decide)))
    · split at h
      · exact (most_ok h (by decide) (Or.inr (by decide))).mono (by decide)
      · split at h
        · rename_i h2
          exact (put_ok h hi (Or.inr (Or.inr (by omega)))).1
        · split at h
          · exact (use_ok h).mono (by decide)
          · split at h
            · exact (use_ok h).mono (by decide)
            · obtain rfl := (Except.ok.inj h).symm
              exact (Grw.refl _).mono (by decide)
mutual
theorem ck_ok : ∀ (x : Nd) (b : Nat) (s s' : Cs), FAt rows x b → ckN rows x b s = .ok s' → s.sc ≠ [] → Grw rows (ndSize x) s s'
  | .mk k n p t ks, b, s, s', hf, h, hne => by
    have hi : b + ndsSize ks < rows.length := by have := hf.lt; rw [ndSize] at this; omega
    have hk : (rowA rows (b + ndsSize ks)).kind = k := by rw [hf.rowA]
    rw [ckN] at h
    rw [ndSize]
    split at h
    · obtain ⟨s1, h1, h2⟩ := CRes.and_ok h
      obtain ⟨s2, h3, h4⟩ := CRes.and_ok h1
      obtain rfl := (Except.ok.inj h4).symm
      have g := cks_ok ks false b _ s2 hf.kids h3 (by simp)
      have e : s2.sc.tail = s.sc := g.sc
      have g1 : Grw rows 0 s { s2 with sc := s2.sc.tail } := by
        refine ⟨by rw [e], ⟨[], by rw [e]; rfl, Nat.le_refl _⟩, fun q => ?_, fun q => by rw [e]; exact q⟩
        have q2 := g.ok ⟨fun S hS d hd => by
          rcases List.mem_cons.1 hS with rfl | hS
          · cases hd
          · exact q.mem S hS d hd, fun S hS => by
          rcases List.mem_cons.1 hS with rfl | hS
          · exact List.Pairwise.nil
          · exact q.one S hS, by simp, q.us, q.cn, q.c4⟩
        exact ⟨fun S hS => q2.mem S (List.mem_of_mem_tail hS), fun S hS => q2.one S (List.mem_of_mem_tail hS), by rw [e]; exact q.ne, q2.us, q2.cn, q2.c4⟩
      exact (g1.trans (look_ok h2 hi hk)).mono (by omega)
    · obtain ⟨s1, h1, h2⟩ := CRes.and_ok h
      exact ((cks_ok ks _ b s s1 hf.kids h1 hne).trans (look_ok h2 hi hk)).mono (by omega)
theorem cks_ok : ∀ (ks : List Nd) (c : Bool) (b : Nat) (s s' : Cs), FsAt rows ks b → ckNs rows c ks b s = .ok s' → s.sc ≠ [] → Grw rows (ndsSize ks) s s'
  | [], _, b, s, s', _, h, _ => by
    rw [ckNs] at h
    obtain rfl := (Except.ok.inj h).symm
    exact Grw.refl _
  | x :: r, c, b, s, s', hf, h, hne => by
    rw [ckNs] at h
    obtain ⟨s1, h1, h2⟩ := CRes.and_ok h
    obtain ⟨f1, f2⟩ := hf.head
    rw [ndsSize]
    split at h1
    · have g := use_ok h1
      exact (g.trans (cks_ok r false _ s1 s' f2 h2 (g.ne hne))).mono (by omega)
    · have g := ck_ok x b s s1 f1 h1 hne
      exact g.trans (cks_ok r false _ s1 s' f2 h2 (g.ne hne))
end
end
end

section
open Go.RowKit

section
variable {E : Int} {l : List Tok}
/-- Every global: the document's parser reads it. -/
theorem rglobal_all (hok : ToksOk l) (h : isTok wInt l = true ∨ isTok wLock l = true) : Ctr 19 [] E 0 l (globalT E l) 4010 := by
  rcases h with h | h
  · cases hn : nameT E l.tail with
    | error f => exact rglobal_int h (by simp only [namE, hn, isE])
    | ok y =>
      obtain ⟨s, r⟩ := y
      by_cases heq : isTok [61] r = true
      · have hr : r = l.tail.tail := (name_ok hok.tail hn).2
        cases hm : isTok [45] r.tail with
        | true =>
          have ht : ToksOk r.tail.tail := by rw [hr]; exact hok.tail.tail.tail.tail
          by_cases hk : ∃ tk r3, r.tail.tail = tk :: r3 ∧ tk.kind = 3
          · obtain ⟨tk, r3, h2, hk⟩ := hk
            refine rglobal_neg_num h hn heq hm h2 hk ?_
            have h5 := (tnum_ok (e := E) ht (show tnumT E r.tail.tail = .ok (tk.num, r3) by rw [h2, tnumT, if_pos hk]))
            exact ⟨h5.1, h5.2.1⟩
          · exact rglobal_neg_bad h hn heq hm fun tk r3 h2 hk2 => hk ⟨tk, r3, h2, hk2⟩
        | false =>
          by_cases hk : ∃ tk r3, r.tail = tk :: r3 ∧ tk.kind = 3
          · obtain ⟨tk, r3, h2, hk⟩ := hk
            exact rglobal_pos_num h hn heq hm h2 hk
          · exact rglobal_pos_bad h hn heq hm fun tk r3 h2 hk2 => hk ⟨tk, r3, h2, hk2⟩
      · exact rglobal_int h (by simp only [namE, hn, isE]; simpa using heq)
  · exact rglobal_lock h
end
end

section
open Go.ChangeShapes Go.WideShapes Go.ChangeAt Go.RowKit
open Go.ChangeMaps (open_string shut_string)

theorem Tryz.own : ownKnob Tryz.prog.godebug = none := by kernel_rfl
theorem gRange : Tryz.prog.globalNamed "strconv.ErrRange" = some 3 := by kernel_rfl
theorem gRangeType : (Tryz.prog.globals[3]?).map (·.type) = some 102 := by kernel_rfl
theorem cellsErr : Tryz.prog.cellsOf 171 = 1 := by kernel_rfl
theorem cellsStr : Tryz.prog.cellsOf 9 = 1 := by kernel_rfl
theorem starErr : "*" ++ "errors.errorString" = "*errors.errorString" := by decide
theorem rowErr (u : TypeId) (h : Tryz.prog.typeName? 3 u = some "*errors.errorString") : u = 169 :=
  typeName_ptr_named (nm := "errors.errorString") (by rw [starErr]; kernel_rfl) (by kernel_rfl) (by decide) u (by rw [starErr]; exact h)

theorem gSignsType : (Tryz.prog.globals[0]?).map (·.type) = some 125 := by kernel_rfl
theorem cellsSigns : Tryz.prog.cellsOf 125 = 19 := by kernel_rfl

/-- An array of strings that reads as a list of texts holds just these. -/
theorem cells_of_strs {H : Type} {enc : TypeId × Value → H} {P : Program} {w : World} {base : Nat} {sp : Nat → Bool} {held : Bool} {fuel : Nat} {t e : TypeId} {n : Nat} {cs : List Value} {zs : List ByteArray} {p : List MemPlace}
    (ht : P.underlying t = some (.array n e)) (he : P.underlying e = some .string) (hce : P.cellsOf e = 1) (hct : P.cellsOf t = n)
    (h : DataW.trod enc P w base sp held fuel t cs = some (.agg (zs.map fun z => .lit (.string z.data.toList)), p)) : cs = zs.map Value.string := by
  cases fuel with
  | zero => simp [DataW.trod] at h
  | succ fuel =>
    simp only [DataW.trod, ht, hce, hct, Nat.mul_one] at h
    split at h
    · rename_i hl
      obtain ⟨xs, hm, hx⟩ := Option.map_eq_some_iff.1 h
      have hxs : xs.map (·.1) = zs.map fun z => (DataW.lit (.string z.data.toList) : DataW H) := by
        have := congrArg Prod.fst hx
        simpa using this
      have hxl : xs.length = n := by simpa using Lib.mapM_length hm
      have hzl : zs.length = n := by
        have := congrArg List.length hxs
        simp at this
        omega
      apply List.ext_getElem?
      intro i
      by_cases hi : i < n
      · obtain ⟨b, hb, hf⟩ := Lib.mapM_at hm i i (by simp [hi])
        obtain ⟨z, hc, rfl, _⟩ := DataW.trod_string he hf
        have h1 : cs[i]? = some (.string z) := by
          have := congrArg (·[0]?) hc
          simpa [List.getElem?_take, List.getElem?_drop] using this
        have h2 : (xs.map (·.1))[i]? = some (DataW.lit (.string z.data.toList) : DataW H) := by simp [hb]
        rw [hxs] at h2
        simp only [List.getElem?_map, Option.map_eq_some_iff, DataW.lit.injEq, Lit.string.injEq] at h2
        obtain ⟨z', hz', e⟩ := h2
        have : z' = z := by
          apply ByteArray.ext
          exact Array.toList_inj.mp e
        subst this
        simp [h1, hz']
      · rw [List.getElem?_eq_none (by omega), List.getElem?_eq_none (by simp; omega)]
    · cases h
theorem strs_of_head {P : Program} {W : World} {name : String} {zs : List ByteArray} {rest : List (String × DataW Unit)} {g : Nat} {t e : TypeId} {n : Nat}
    (hg : P.globalNamed name = some g) (hty : (P.globals[g]?).map (·.type) = some t) (ht : P.underlying t = some (.array n e)) (he : P.underlying e = some .string) (hce : P.cellsOf e = 1) (hct : P.cellsOf t = n)
    (h : laidMet P ((name, .agg (zs.map fun z => .lit (.string z.data.toList))) :: rest) W) : W.var? P name = some (zs.map Value.string).toArray := by
  obtain ⟨ps, ⟨g', t', cs, fuel, p, q, hg', ht', hvar, hd, _, _⟩, _⟩ := h
  obtain rfl := Option.some.inj (hg.symm.trans hg')
  obtain rfl := Option.some.inj (hty.symm.trans ht')
  rw [hvar, ← cells_of_strs ht he hce hct hd]

theorem shaped_size {P : Program} {W : World} (h : W.ShapedOpen P) (g : Nat) (hg : g < P.globals.size) (hs : (((begin P (fun _ _ => 0) default).world.heap[g]?).bind Obj.row?).isSome = true) : g < W.heap.size := by
  obtain ⟨⟨zero, t⟩, hz⟩ := Option.isSome_iff_exists.1 hs
  obtain ⟨cs, h1, _⟩ := h.1 g zero t hg hz
  rcases Nat.lt_or_ge g W.heap.size with h2 | h2
  · exact h2
  · rw [Array.getElem?_eq_none h2] at h1; cases h1
end

end Go.Proofs.YtclnjhffcfkihaeGreatDoor
