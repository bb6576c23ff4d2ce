/-
  The document's parser: what a function makes of its own, and calls that read a tree.
  The document's parser: what stands in brackets; a name.
  The document's parser: the levels of expressions.
  The document's parser: every expression.
  The document's parser: one more kid.
  The document's parser: what begins with no word of a statement.
  The document's parser: blocks.
  The document's signs.
  The document's one token.
  The document's Scan.
  There are no more tokens than bytes.
  The document's Parse: how it begins, its rounds, how it ends.
  The document's Parse.
-/
import Derived.Test.YtclnjhffcfkihaeGreatDoorPlain
import Derived.Deep.LoopGhost
import Derived.Test.YtclnjhffcfkihaeGreatDoorLexZ1
import Derived.Test.YtclnjhffcfkihaeGreatDoorBase
import Derived.Test.YtclnjhffcfkihaeGreatDoorSynG
import Derived.Test.YtclnjhffcfkihaeGreatDoorSynT
namespace Go.Proofs.YtclnjhffcfkihaeGreatDoor
section
open Go.RowKit

section
variable {C : Cx9} {w w' : World} {d d' M : Nat} {lv : Value} {bx : Option (Nat × Obj)} {ps : List (List Int × Value)} {s : Except (Int × Int) (List Tok)} {rows : List Row}
theorem kd_off {P b : Nat} {cs : Array Value} {x : Row × Value} (h : KdAt w P lv x) (ho : Only b w w') (hb : w.heap[b]? = some (.cells cs 53)) : KdAt w' P lv x :=
  ⟨fam_keeps h.own fun g hg => ho.block g (h.own.lt g hg).2 fun e => own_apart h.own hb (by decide) (by rw [hg, e]), h.apart, h.far⟩
theorem lst_off {P B b : Nat} {tv : Value} {xs : List (Row × Value)} (h : Lst w B P tv lv xs) (ho : Only b w w') (hl : lv.ownBlock ≠ some b) : Lst w' B P tv lv xs :=
  ⟨fam_keeps h.own fun g hg => ho.block g (h.own.lt g hg).2 fun e => hl (by rw [hg, e]), Nat.le_trans h.low ho.size, h.apart, h.far⟩
theorem box5 {w : World} {b : Nat} {t : TypeId} {a0 a1 a2 a3 a4 : Value} (h : w.heap[b]? = some (.cells #[a0, a1, a2, a3, a4] t)) : w.cell? ⟨b, 0, none⟩ = some a0 ∧ w.cell? ⟨b, 1, none⟩ = some a1 ∧ w.cell? ⟨b, 2, none⟩ = some a2 ∧ w.cell? ⟨b, 3, none⟩ = some a3 ∧ w.cell? ⟨b, 4, none⟩ = some a4 ∧ ∀ j, w.frozen? ⟨b, j, none⟩ = false :=
  ⟨box_cell h rfl, box_cell h rfl, box_cell h rfl, box_cell h rfl, box_cell h rfl, fun _ => box_free h⟩
theorem set_size (w : World) (a : Addr) (u : Value) : (w.setCell a u).heap.size = w.heap.size := by simp [World.setCell]
end
end

section
open Go.RowKit

section
variable {E : Int} {d : Nat} {l : List Tok}
theorem is_alone {S R : List UInt8} (h : isTok S l = true) (hne : S ≠ R) : isTok R l = false := by
  match l, h with
  | t :: r, h =>
    simp only [isTok, Bool.and_eq_true, decide_eq_true_eq] at h
    simp only [isTok, h.2, decide_eq_false hne, Bool.and_false]
end
end

section
open Go.RowKit

section
variable {E : Int} {d : Nat} {l : List Tok}
theorem sign_yes {k : Nat} {t : Tok} {r : List Tok} (h : t.kind = 4) (h2 : lvl t.text = (k : Int)) : signAt k (t :: r) = some (t, r) := by rw [signAt, if_pos ⟨h, h2⟩]
end
end

section
open Go.RowKit

section
variable {E : Int}
theorem prim_is (l : List Tok) (t : Tok) (r : List Tok) (hl : l = t :: r) (hk : t.kind = 3) : primT E l = .ok (.mk 15 t.num t.pos [] [], r) := by
  subst hl
  unfold primT
  rw [tnumT, if_pos hk]
  rfl
end
end

section
open Go.RowKit

theorem infoInt9 : (Tryz.prog.info? 3).map (fun i => (i.zero, i.size, i.bytes)) = some (some (.int .i64 0), 1, 8) := by kernel_rfl

section
variable {C : Cx9} {w w' : World} {d M : Nat} {lv : Value} {bx : Option (Nat × Obj)} {ps : List (List Int × Value)} {s : Except (Int × Int) (List Tok)} {rows : List Row}
/-- No block has changed but one. -/
structure But (kb : Option Nat) (w w' : World) : Prop where
  os : w'.os = w.os
  tape : w'.tape = w.tape
  output : w'.output = w.output
  size : w.heap.size ≤ w'.heap.size
  block : ∀ k, k < w.heap.size → some k ≠ kb → w'.heap[k]? = w.heap[k]?
theorem own_but {B : Nat} {e : TypeId} {size : Nat} {v : Value} {n : Nat} {xs : List Value} {kb : Option Nat} (h : w.ownsRow B e size v n xs) (ho : But kb w w') (hne : ∀ g, v.ownBlock = some g → some g ≠ kb) : w'.ownsRow B e size v n xs :=
  fam_keeps h fun g hg => ho.block g (h.lt g hg).2 (hne g hg)
theorem kd_but {P : Nat} {x : Row × Value} {kb : Option Nat} (h : KdAt w P lv x) (ho : But kb w w') (hne : ∀ g, x.2.ownBlock = some g → some g ≠ kb) : KdAt w' P lv x := ⟨own_but h.own ho hne, h.apart, h.far⟩
theorem lst_but {P B : Nat} {tv : Value} {xs : List (Row × Value)} {kb : Option Nat} (h : Lst w B P tv lv xs) (ho : But kb w w') (hne : ∀ g, lv.ownBlock = some g → some g ≠ kb) : Lst w' B P tv lv xs := ⟨own_but h.own ho hne, Nat.le_trans h.low ho.size, h.apart, h.far⟩
end
end

section
open Go.RowKit

/-- The words that begin a statement. -/
def stWords : List (List UInt8) := [wInt, wIf, wWhile, wPrint, wLock, wUnlock, wFence]
theorem stmt_none {e : Int} {d : Nat} {l : List Tok} (h : ∀ c, c ∈ stWords → wordOf l ≠ c) : stmtT e d l = assignT e d l := by
  simp only [stWords, List.mem_cons, List.not_mem_nil, or_false, forall_eq_or_imp, forall_eq] at h
  obtain ⟨h1, h2, h3, h4, h5, h6, h7⟩ := h
  rw [stmtT_is, if_neg h2, if_neg h3, if_neg h1, if_neg h4, if_neg (by simp [h5, h6]), if_neg h7]

section
variable {E : Int} {d : Nat}
end
end

section
open Go.RowKit

attribute [local go_sem ↓] appS_eq

section
variable {E : Int} {d : Nat} {l : List Tok}
theorem idxs_len : ∀ (xs : List Nd) (b : Nat), (idxs b xs).length ≤ ndsSize xs
  | [], b => by simp [idxs, ndsSize]
  | .mk k n p t ks :: r, b => by
    have := idxs_len r (b + ndSize (.mk k n p t ks))
    simp only [idxs, ndsSize, List.length_cons, ndSize] at this ⊢
    omega

end
end

section
open Go.RowKit

theorem ext_list (s : ByteArray) (i j : Nat) : (s.extract i j).data.toList = (s.data.toList.drop i).take (j - i) := by
  rw [ByteArray.data_extract, Array.toList_extract, List.extract_eq_take_drop]

theorem signN_two {l : List UInt8} (h : l.take 2 ∈ twoL) : signN l = 2 := by unfold signN; rw [if_pos h]
end

section
open Go.RowKit

/-- How many bytes from k on are such. -/
def twAt (p : UInt8 → Bool) (s : ByteArray) (k : Nat) : Nat := ((s.data.toList.drop k).takeWhile p).length
section
variable {p : UInt8 → Bool} {s : ByteArray} {k : Nat}
theorem twAt_end (h : s.size ≤ k) : twAt p s k = 0 := by rw [twAt, drop_over s k h]; rfl
theorem twAt_stop (h : k < s.size) (hp : p s[k] = false) : twAt p s k = 0 := by
  rw [twAt, drop_at s k h, List.takeWhile_cons_of_neg (by simp [hp])]; rfl
theorem twAt_more (h : k < s.size) (hp : p s[k] = true) : twAt p s k = twAt p s (k + 1) + 1 := by
  rw [twAt, drop_at s k h, List.takeWhile_cons_of_pos hp]; rfl
theorem twAt_le (h : k ≤ s.size) : k + twAt p s k ≤ s.size := by
  have h1 := takeWhile_le p (s.data.toList.drop k)
  have hl : s.data.toList.length = s.size := by simp
  rw [List.length_drop, hl] at h1
  unfold twAt
  omega
theorem twAt_text (h : k < s.size) : (s.extract k (k + (1 + twAt p s (k + 1)))).data.toList = s[k] :: (s.data.toList.drop (k + 1)).takeWhile p := by
  rw [ext_list, Nat.add_sub_cancel_left, drop_at s k h, Nat.add_comm 1, List.take_succ_cons, twAt, takeWhile_take]
end

theorem oneL_name {s : ByteArray} {i N : Nat} (hi : i < s.size) (hl : isLet s[i] = true) (hN : 1 + twAt isNam s (i + 1) = N) :
    oneL (s.data.toList.drop i) = if 12 < N then none else some (kindW (s.extract i (i + N)).data.toList, 0, N) := by
  subst hN
  rw [twAt_text hi, drop_at s i hi, oneL, if_pos hl]
  rfl
theorem oneL_num {s : ByteArray} {i N : Nat} (hi : i < s.size) (hl : isLet s[i] = false) (hd : isDig s[i] = true) (hN : 1 + twAt isDig s (i + 1) = N) :
    oneL (s.data.toList.drop i) = if 9 < N ∨ (1 < N ∧ s[i].toNat = 48) then none else some (3, (mag (s.extract i (i + N)).data.toList : Int), N) := by
  subst hN
  rw [twAt_text hi, drop_at s i hi, oneL, if_neg (by simp [hl]), if_pos hd]
  rfl
theorem oneL_sign {s : ByteArray} {i : Nat} (hi : i < s.size) (hl : isLet s[i] = false) (hd : isDig s[i] = false) :
    oneL (s.data.toList.drop i) = if signN (s.data.toList.drop i) = 0 then none else some (4, 0, signN (s.data.toList.drop i)) := by
  rw [drop_at s i hi, oneL, if_neg (by simp [hl]), if_neg (by simp [hd])]
end

section
open Go.RowKit

section
variable {s : ByteArray} {p E f : Nat} {acc : List Tok}
theorem skAt_drop {B : Bool} (h : skAt s false p = (E, B)) : p + (skipL false (s.data.toList.drop p)).1 = E ∧ (skipL false (s.data.toList.drop p)).2 = B ∧ (s.data.toList.drop p).drop (skipL false (s.data.toList.drop p)).1 = s.data.toList.drop E := by
  simp only [skAt, Prod.mk.injEq] at h
  refine ⟨h.1, h.2, ?_⟩
  rw [List.drop_drop, h.1]
theorem scanF_bad (h : skAt s false p = (E, true)) : scanF (f + 1) p (s.data.toList.drop p) acc = ([], 4, (E : Int)) := by
  obtain ⟨h1, h2, h3⟩ := skAt_drop h
  rw [scanF, if_pos h2, h1]
theorem scanF_end (h : skAt s false p = (E, false)) (hE : s.size ≤ E) : scanF (f + 1) p (s.data.toList.drop p) acc = (acc, 0, 0) := by
  obtain ⟨h1, h2, h3⟩ := skAt_drop h
  rw [scanF, if_neg (by simp [h2]), h3, if_pos (drop_over s E hE)]
theorem scanF_none (h : skAt s false p = (E, false)) (hE : E < s.size) (ho : oneL (s.data.toList.drop E) = none) : scanF (f + 1) p (s.data.toList.drop p) acc = ([], 5, (E : Int)) := by
  obtain ⟨h1, h2, h3⟩ := skAt_drop h
  rw [scanF, if_neg (by simp [h2]), h3, if_neg (by rw [drop_at s E hE]; simp), ho, h1]
theorem scanF_more (h : skAt s false p = (E, false)) (hE : E < s.size) {k v : Int} {m : Nat} (ho : oneL (s.data.toList.drop E) = some (k, v, m)) :
    scanF (f + 1) p (s.data.toList.drop p) acc = scanF f (E + m) (s.data.toList.drop (E + m)) (acc ++ [⟨k, v, (E : Int), (s.data.toList.drop E).take m⟩]) := by
  obtain ⟨h1, h2, h3⟩ := skAt_drop h
  rw [scanF, if_neg (by simp [h2]), h3, if_neg (by rw [drop_at s E hE]; simp), ho]
  simp only [h1, List.drop_drop]
theorem oneL_at {i m : Nat} {k v : Int} (hi : i < s.size) (ho : oneL (s.data.toList.drop i) = some (k, v, m)) : 1 ≤ m ∧ i + m ≤ s.size := by
  have h1 := oneL_len ho
  have h2 : s.data.toList.length = s.size := by simp
  rw [List.length_drop, h2] at h1
  omega
end

/-- What Scan tells: the tokens' slice, the fault. -/
def ScanQ (B : Nat) (r : List Tok × (Int × Int)) (e : Ending) (w' : World) : Prop :=
  ∃ v, e = .returned (.tuple #[v, .agg #[.int .i64 r.2.1, .int .i64 0, .int .i64 r.2.2]]) ∧ OwnT w' B v r.1

attribute [local go_sem ↓] appS_eq
end

section
theorem scanF_len : ∀ (f i : Nat) (l : List UInt8) (acc : List Tok), (scanF f i l acc).1.length ≤ acc.length + l.length
  | 0, _, _, acc => by simp [scanF]
  | f + 1, i, l, acc => by
    rw [scanF]
    split
    · simp
    · split
      · simp
      · split
        · simp
        · rename_i k v m h
          have h1 := oneL_len h
          have h2 := scanF_len f (i + (skipL false l).1 + m) ((l.drop (skipL false l).1).drop m) (acc ++ [⟨k, v, ((i + (skipL false l).1 : Nat) : Int), (l.drop (skipL false l).1).take m⟩])
          simp only [List.length_append, List.length_cons, List.length_nil, List.length_drop] at h1 h2 ⊢
          omega
theorem scanL_len (l : List UInt8) : (scanL l).1.length ≤ 4000 := by
  unfold scanL
  split
  · simp
  · have := scanF_len (l.length + 1) 0 l []
    simp only [List.length_nil] at this
    omega
end

section
open Go.RowKit

/-- Nodes in memory, with their kids. -/
def NodesIn (w : World) (B : Nat) (v : Value) (rows : List Row) : Prop := ∃ ys : List (Row × Value), OwnN w B v ys ∧ ys.map Prod.fst = rows ∧ ∀ y, y ∈ ys → w.ownsRow 0 3 1 y.2 y.1.kids.length (y.1.kids.map fun k => .int .i64 k)
/-- What Parse tells. -/
def ParseQ (B : Nat) (r : List Row × (Int × Int)) (e : Ending) (w' : World) : Prop :=
  ∃ v, e = .returned (.tuple #[v, .agg #[.int .i64 r.2.1, .int .i64 0, .int .i64 r.2.2]]) ∧ NodesIn w' B v r.1
theorem nodes_nil (w : World) (B : Nat) : NodesIn w B nilV [] := ⟨[], World.ownsRow_nil _ _ _ _, rfl, fun y hy => by simp at hy⟩

section
variable {C : Cx9} {w w' : World} {d M : Nat} {bx : Option (Nat × Obj)} {ps : List (List Int × Value)} {s : Except (Int × Int) (List Tok)} {rows : List Row}
end

theorem global_size {e : Int} {l r : List Tok} {x : Nd} (hl : ToksOk l) (h : globalT e l = .ok (x, r)) : ndSize x = 1 ∧ r.length < l.length ∧ ToksOk r := by
  have hw := global_wf hl h
  have key : ndSize x = 1 ∧ r.length < l.length := by
    unfold globalT at h
    split at h
    · cases hn : nameT e l.tail with
      | error f => rw [hn] at h; cases h
      | ok y =>
        obtain ⟨s, q⟩ := y
        rw [hn] at h
        simp only at h
        cases ht : takeT e [59] q with
        | error f => rw [ht] at h; cases h
        | ok p =>
          rw [ht] at h
          have h1 := Except.ok.inj h
          simp only [Prod.mk.injEq] at h1
          have h2 := name_len hn
          have h3 := take_len ht
          have h4 := tail_le l
          rw [← h1.1, ← h1.2]
          exact ⟨rfl, by omega⟩
    · cases ht0 : takeT e wInt l with
      | error f => rw [ht0] at h; cases h
      | ok l1 =>
        rw [ht0] at h
        simp only at h
        have h0 := take_len ht0
        cases hn : nameT e l1 with
        | error f => rw [hn] at h; cases h
        | ok y =>
          obtain ⟨s, q⟩ := y
          rw [hn] at h
          simp only at h
          have h2 := name_len hn
          split at h
          · split at h
            · cases h
            · rename_i v p hv
              have h5 := tnum_len hv
              cases ht : takeT e [59] p with
              | error f => rw [ht] at h; cases h
              | ok z =>
                rw [ht] at h
                have h1 := Except.ok.inj h
                simp only [Prod.mk.injEq] at h1
                have h3 := take_len ht
                have h4 := tail_le q
                have h6 := tail_le q.tail
                rw [← h1.1, ← h1.2]
                refine ⟨rfl, ?_⟩
                split at h5 <;> omega
          · cases ht : takeT e [59] q with
            | error f => rw [ht] at h; cases h
            | ok z =>
              rw [ht] at h
              have h1 := Except.ok.inj h
              simp only [Prod.mk.injEq] at h1
              have h3 := take_len ht
              rw [← h1.1, ← h1.2]
              exact ⟨rfl, by omega⟩
  exact ⟨key.1, key.2, hw.2⟩
end

section
open Go.RowKit

attribute [local go_sem ↓] appS_eq

/-- What Parse tells of a text that has tokens, of what its trees are. -/
def prsQ (s : List UInt8) (Z : TRes (List Nd)) : List Row × (Int × Int) :=
  match Z with
  | .error f => ([], f)
  | .ok (ks, _) => if 600 < ndsSize ks + 1 then ([], (10, (s.length : Int))) else (flats 0 ks ++ [⟨1, 0, 0, [], idxs 0 ks⟩], (0, 0))

/-- .. behind the globals. -/
noncomputable def thrG (e : Int) : TRes (List Nd) → TRes (List Nd)
  | .error f => .error f
  | .ok (ks, r) => threadsT e ks r
end

end Go.Proofs.YtclnjhffcfkihaeGreatDoor
