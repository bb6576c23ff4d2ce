/-
  What is told of a program with words in place of its locks, and of the one with locks: plain functions.
  Outcomes in order, each once; by the laws.
  The outcomes that are Done are the same, but for the words of locks: plain functions.
-/
import Derived.Test.YtefnmbnakphhfadSpnS
import Derived.Test.YtefnmbnakphhfadSpnA
import Derived.Test.YtefnmbnakphhfadZMake
import Derived.Test.YtefnmbnakphhfadBuild4
import Derived.BigRegion
namespace Go.Proofs.Ytefnmbnakphhfad
section
open Go.RowKit

theorem begin_at (n : Nat) (words : List Int) (lk rg : Int) (t : Nat) (ht : t < n) : thOf (beginX n words lk rg) t = ⟨0, List.replicate rg.toNat 0, []⟩ := by
  unfold thOf beginX
  simp [List.getD, ht]
/-- Ahead of the first step. -/
theorem spin_begin {n : Nat} {L : Nat → Nat} {X : Nat → Nat → Nat → Int} {pl : Nat → Nat → Nat} (hz : ∀ t, t < n → pl t 0 = 0) (words : List Int) (lk rg : Nat) : SSt n words.length rg L X pl (beginX n words lk rg) (beginX n (words ++ List.replicate lk 0) 0 8) ∧ AtP n pl (beginX n words lk rg) (beginX n (words ++ List.replicate lk 0) 0 8) := by
  refine ⟨⟨by simp [beginX], ?_, rfl, rfl, fun t ht => ?_⟩, fun t ht => ?_⟩
  · show words ++ List.replicate lk 0 = words ++ (List.replicate (lk : Int).toNat (-1)).map lockV
    rw [List.map_replicate]
    rfl
  · rw [begin_at n words lk rg t ht, begin_at n _ 0 8 t ht]
    refine ⟨⟨rfl, fun r _ => ?_⟩, rfl, Or.inl ?_⟩
    · have e : ∀ k : Nat, (List.replicate k (0 : Int)).getD r 0 = 0 := fun k => by
        rw [List.getD_eq_getElem?_getD, List.getElem?_replicate]
        split <;> rfl
      exact (e _).trans (e _).symm
    · show 0 = pl t 0
      rw [hz t ht]
  · rw [begin_at n words lk rg t ht, begin_at n _ 0 8 t ht]
    show 0 = pl t 0
    rw [hz t ht]
/-- Where no outcome is one that fell, nobody falls. -/
theorem told_noFall {n : Nat} {L : Nat → Nat} {X : Nat → Nat → Nat → Int} {words : List Int} {lk rg : Nat} {mx : Nat} {c : List Oc} (hc : COk n L X words.length lk rg) (ht : Told (nxX L X 1) (outsX L X 1) (beginX n words lk rg) mx false c) (hf : ∀ o, o ∈ c → o.st ≠ 1) {mode : Int} (hm : mode = 0 ∨ mode = 1) : NoFall n L X mode (beginX n words lk rg) := by
  rcases ht with ⟨e, _⟩ | ⟨_, _, mc, _⟩
  · cases e
  intro A hA t ht ha he
  rcases hm with rfl | rfl
  · have h0 := reach_ok (begin_ok (L := L)) rfl hc (by decide) hA
    have ho := outs_fall (mode := 0) (by rw [h0.1.ths]; exact ht) ha he
    exact hf _ ((mc _).2 ⟨A, reach_more begin_ok rfl hc hA, outs_more begin_ok rfl hc hA ho⟩) rfl
  · have h0 := reach_ok (begin_ok (L := L)) rfl hc (by decide) hA
    exact hf _ ((mc _).2 ⟨A, hA, outs_fall (mode := 1) (by rw [h0.1.ths]; exact ht) ha he⟩) rfl
section
variable {n : Nat} {L : Nat → Nat} {X : Nat → Nat → Nat → Int} {words : List Int} {lk rg : Nat} {mx : Nat} {mode : Int}
/-- Words of an outcome that is Done. -/
theorem told_words (hc : COk n L X words.length lk rg) (hm : 0 ≤ mode) {a : List Oc} (ht : Told (nxX L X mode) (outsX L X mode) (beginX n words lk rg) mx false a) {o : Oc} (ho : o ∈ a) (h0 : o.st = 0) : o.ws.length = words.length := by
  rcases ht with ⟨e, _⟩ | ⟨_, _, ma, _⟩
  · cases e
  obtain ⟨A, hA, h1⟩ := (ma o).1 ho
  have hok := reach_ok (begin_ok (L := L)) rfl hc hm hA
  rcases outs_cases hok.2 (fun t ht => hok.1.wlen t (by rw [← hok.1.ths]; exact ht)) h1 with ⟨_, rfl⟩ | ⟨t, _, _, _, rfl⟩
  · exact hok.1.words
  · cases h0
/-- What is Done with words in place of locks is Done with locks, and the other way round. -/
theorem spin_told (hc : COk n L X words.length lk rg) (hg : rg ≤ 6) (hm : mode = 0 ∨ mode = 1) (hnf : NoFall n L X mode (beginX n words lk rg)) {a b : List Oc} (ha : Told (nxX L X mode) (outsX L X mode) (beginX n words lk rg) mx false a)
    (hb : Told (nxX (lenR (bSpin words.length X) L) (numR (bSpin words.length X) L) mode) (outsX (lenR (bSpin words.length X) L) (numR (bSpin words.length X) L) mode) (beginX n (words ++ List.replicate lk 0) 0 8) mx false b) :
    (∀ o, o ∈ b → o.st = 0 → (⟨0, o.ws.take words.length, o.pr⟩ : Oc) ∈ a) ∧ ∀ o, o ∈ a → o.st = 0 → ∃ q, q ∈ b ∧ q.st = 0 ∧ q.ws.take words.length = o.ws ∧ q.pr = o.pr := by
  have hR := spin_rel n words.length L X
  obtain ⟨hb0, hat⟩ := spin_begin (L := L) (X := X) hR.z words lk rg
  rcases ha with ⟨e, _⟩ | ⟨_, _, ma, _⟩
  · cases e
  rcases hb with ⟨e, _⟩ | ⟨_, _, mb, _⟩
  · cases e
  refine ⟨fun o ho h0 => ?_, fun o ho h0 => ?_⟩
  · obtain ⟨S, hS, h1⟩ := (mb o).1 ho
    exact (ma _).2 (spin_out hR hc hg hm hnf begin_ok rfl hb0 hS h1 h0)
  · obtain ⟨A, hA, h1⟩ := (ma o).1 ho
    obtain ⟨_, S, hS, q, hq, h2⟩ := spin_back hR hc hg hm begin_ok rfl hb0 hat hA h1 h0
    exact ⟨q, (mb q).2 ⟨S, hS, hq⟩, h2⟩
end
end

section
open Go.RowKit

/-- Outcomes in order, each once. -/
def onceL (l : List Oc) : List Oc := l.foldl (fun r o => insO o r) []
theorem once_snoc (l : List Oc) (o : Oc) : onceL (l ++ [o]) = insO o (onceL l) := by unfold onceL; rw [List.foldl_append]; rfl
theorem once_sorted_rev : ∀ r : List Oc, SortedO (onceL r.reverse)
  | [] => List.Pairwise.nil
  | o :: r => by
    rw [List.reverse_cons, once_snoc]
    exact sorted_insO (once_sorted_rev r)
theorem once_sorted (l : List Oc) : SortedO (onceL l) := by have := once_sorted_rev l.reverse; rwa [List.reverse_reverse] at this
theorem once_mem_rev {x : Oc} : ∀ r : List Oc, x ∈ onceL r.reverse ↔ x ∈ r
  | [] => Iff.rfl
  | o :: r => by
    rw [List.reverse_cons, once_snoc, mem_insO, once_mem_rev r, List.mem_cons]
theorem once_mem {x : Oc} (l : List Oc) : x ∈ onceL l ↔ x ∈ l := by
  have := once_mem_rev (x := x) l.reverse
  rwa [List.reverse_reverse, List.mem_reverse] at this
/-- Where an outcome belongs. -/
theorem ins_at {o : Oc} {l : List Oc} {j : Nat} (hj : j ≤ l.length) (h : ∀ y, y ∈ l.take j → aheadO y o = true) (h1 : j < l.length → aheadO (l.getD j default) o = false) :
    (j < l.length → aheadO o (l.getD j default) = false → insO o l = l) ∧ ((j < l.length → aheadO o (l.getD j default) = true) → insO o l = l.take j ++ [o] ++ l.drop j) := by
  have key : j < l.length → l = l.take j ++ l.getD j default :: l.drop (j + 1) := fun hlt => by
    have e : l.getD j default = l[j] := by rw [List.getD_eq_getElem?_getD, List.getElem?_eq_getElem hlt]; rfl
    rw [e, ← List.drop_eq_getElem_cons hlt, List.take_append_drop]
  refine ⟨fun hlt ha => ?_, fun ha => ?_⟩
  · have e : o = l.getD j default := ahead_tri ha (h1 hlt)
    have k := key hlt
    rw [← e] at k
    rw [k]
    exact ins_in h
  · rcases Nat.lt_or_ge j l.length with hlt | hge
    · have k := key hlt
      have e2 : l.drop j = l.getD j default :: l.drop (j + 1) := by
        have e : l.getD j default = l[j] := by rw [List.getD_eq_getElem?_getD, List.getElem?_eq_getElem hlt]; rfl
        rw [e, ← List.drop_eq_getElem_cons hlt]
      rw [e2]
      have := ins_mid (r := l.drop (j + 1)) (ha hlt) h
      rw [← k] at this
      rw [this]
      simp
    · have hjl : j = l.length := by omega
      rw [hjl, List.take_length] at h ⊢
      rw [ins_end h, List.drop_length]
      simp
theorem ensV_flat_rev : ∀ r : List En, ensV r.reverse = r.reverse.flatMap fun e => [.int .i64 e.o.st, .slice e.wa e.o.ws.length e.wc, .slice e.pa e.o.pr.length e.pc]
  | [] => rfl
  | e :: r => by
    rw [List.reverse_cons, ensV_snoc, ensV_flat_rev r, List.flatMap_append]
    simp
theorem ensV_flat (es : List En) : ensV es = es.flatMap fun e => [.int .i64 e.o.st, .slice e.wa e.o.ws.length e.wc, .slice e.pa e.o.pr.length e.pc] := by
  have := ensV_flat_rev es.reverse
  rwa [List.reverse_reverse] at this
theorem ensV_append (es fs : List En) : ensV (es ++ fs) = ensV es ++ ensV fs := by rw [ensV_flat, ensV_flat, ensV_flat, List.flatMap_append]
theorem ensV_len3 (es : List En) : (ensV es).length = es.length * 3 := by
  rw [ensV_flat]
  induction es with
  | nil => rfl
  | cons e es ih => rw [List.flatMap_cons, List.length_append, ih, List.length_cons]; simp; omega
theorem ensV_one (es : List En) : ∀ u ∈ ensV es, u.oneCell' = true := fun u hu => by
  rw [ensV_flat, List.mem_flatMap] at hu
  obtain ⟨e, _, he⟩ := hu
  simp only [List.mem_cons, List.not_mem_nil, or_false] at he
  rcases he with rfl | rfl | rfl <;> rfl
/-- Outcomes in a row, as what is to be put behind others: the first of them, those behind. -/
theorem iso_src {w : World} {B : Nat} {a : Option Addr} {len c : Nat} {es : List En} (h : IsO w B a len c es) : SrcL w a (ensV es) := fun k u hu => by
  have hk : k < len * 3 := by
    rw [← h.is, ← ensV_len3]
    rcases Nat.lt_or_ge k (ensV es).length with h1 | h1
    · exact h1
    · rw [List.getElem?_eq_none h1] at hu; cases hu
  obtain ⟨g, cap, e, hg, _⟩ := fam_block h.own (by omega)
  simp only [Value.slice.injEq] at e
  refine ⟨g, 0, e.1, ?_⟩
  rw [Nat.zero_add]
  exact fam_cell h.own hg hu
theorem src_take {w : World} {a : Option Addr} {es : List En} (h : SrcL w a (ensV es)) (j : Nat) : SrcL w a (ensV (es.take j)) := fun k u hu => by
  refine h k u ?_
  have e : ensV es = ensV (es.take j) ++ ensV (es.drop j) := by rw [← ensV_append, List.take_append_drop]
  rw [e, List.getElem?_append_left]
  · exact hu
  · rcases Nat.lt_or_ge k (ensV (es.take j)).length with h1 | h1
    · exact h1
    · rw [List.getElem?_eq_none h1] at hu; cases hu
theorem src_drop {w : World} {a : Option Addr} {es : List En} (h : SrcL w a (ensV es)) (j cap : Nat) (hc : es.length ≤ cap) (hj : j ≤ es.length) : SrcL w (if cap = j then a else a.map fun x => x.add (j * 3)) (ensV (es.drop j)) := fun k u hu => by
  have hk : k < (ensV (es.drop j)).length := by
    rcases Nat.lt_or_ge k (ensV (es.drop j)).length with h1 | h1
    · exact h1
    · rw [List.getElem?_eq_none h1] at hu; cases hu
  rw [ensV_len3, List.length_drop] at hk
  rw [if_neg (by omega)]
  have e : ensV es = ensV (es.take j) ++ ensV (es.drop j) := by rw [← ensV_append, List.take_append_drop]
  have hl : (ensV (es.take j)).length = j * 3 := by rw [ensV_len3, List.length_take]; congr 1; omega
  obtain ⟨b, o, e1, h1⟩ := h (j * 3 + k) u (by rw [e, List.getElem?_append_right (by omega), hl, show j * 3 + k - j * 3 = k by omega]; exact hu)
  refine ⟨b, o + j * 3, ?_, ?_⟩
  · rw [e1]
    simp only [Option.map_some, Addr.add]
    split
    · rename_i h0
      simp only [Option.some.injEq, Addr.mk.injEq, true_and, and_true]
      omega
    · rfl
  · rw [show o + j * 3 + k = o + (j * 3 + k) by omega]
    exact h1
/-- More outcomes behind others. -/
theorem IsO.app {w0 w W : World} {B : Nat} {a : Option Addr} {len c : Nat} {es : List En} (h : IsO w B a len c es) (hb : Below w.heap.size w W) (hB : B ≤ w.heap.size) (fs : List En) (sa : Option Addr) (sc : Nat) (hs : SrcL W sa (ensV fs)) (hl : len + fs.length ≤ 1000000) (h0 : Below B w0 W) :
    ∃ b d w3, (AppS #[40, 40] 40 #[.slice a len c, .slice sa fs.length sc]).run Try.prog W = .ok (.slice b (len + fs.length) d) w3 ∧ Hid (IsO w3 B b (len + fs.length) d (es ++ fs) ∧ Below B w0 w3) := by
  have h1 := h.below hb
  have hBW := Nat.le_trans hB hb.size
  obtain ⟨v, w3, r1, r2, r3, _⟩ := app_lie (T := 40) Try.underlying40 infoOutcome rfl (by omega) h1.own hBW sa fs.length sc (ensV fs) (ensV_len3 fs) hs (ensV_one fs) hl (by omega)
  obtain ⟨b, d, rfl⟩ := fam_form r2
  exact ⟨b, d, w3, r1, ⟨by rw [List.length_append, h.is], by rw [ensV_append]; exact r2⟩, h0.grown r3 hBW (fun k hk => (h1.own.lt k hk).1)⟩
theorem slice_upto (a : Option Addr) (len c n : Nat) (h : n ≤ c) (V : World) : (Instr.slice 40 (.slice a len c) none (some (.int .i64 (n : Int))) none).run Try.prog V = .ok (.slice a n c) V := by
  rw [run_slice_h (P := Try.prog) V 40 a len c (by kernel_rfl) .i64 (n : Int) (by omega) (by omega)]
  have e1 : (sizeOf (Try.prog.elem 40)).run Try.prog V = .ok 3 V := by kernel_rfl
  rw [e1]
  simp only [Result.andThen, sliced, Int.toNat_natCast]
  cases a <;> simp [Addr.add]
theorem slice_from (a : Option Addr) (len c n : Nat) (h : n ≤ len) (V : World) : (Instr.slice 40 (.slice a len c) (some (.int .i64 (n : Int))) none none).run Try.prog V = .ok (.slice (if c = n then a else a.map fun x => x.add (n * 3)) (len - n) (c - n)) V := by
  rw [run_slice_l (P := Try.prog) V 40 a len c (by kernel_rfl) .i64 (n : Int) (by omega) (by omega)]
  have e1 : (sizeOf (Try.prog.elem 40)).run Try.prog V = .ok 3 V := by kernel_rfl
  rw [e1]
  simp only [Result.andThen, sliced, Int.toNat_natCast]
theorem iso_cap {w : World} {B : Nat} {a : Option Addr} {len c : Nat} {es : List En} (h : IsO w B a len c es) : len ≤ c := by
  rcases h.own.2 with ⟨h1, _⟩ | ⟨g, cap, cur, h1, _, _, h3, _⟩
  · simp only [Value.slice.injEq] at h1
    omega
  · simp only [Value.slice.injEq] at h1
    omega
end

section
open Go.RowKit

theorem mem_cutO {n : Nat} {l : List Oc} {x : Oc} : x ∈ cutO n l ↔ ∃ o, o ∈ l ∧ o.st = 0 ∧ x = ⟨0, o.ws.take n, o.pr⟩ := by
  unfold cutO
  rw [List.mem_map]
  constructor
  · rintro ⟨o, ho, rfl⟩
    rw [List.mem_filter] at ho
    exact ⟨o, ho.1, by simpa using ho.2, rfl⟩
  · rintro ⟨o, ho, h0, rfl⟩
    exact ⟨o, List.mem_filter.mpr ⟨ho, by simpa using h0⟩, rfl⟩
/-- Outcomes with just so many words stay as they are. -/
theorem cut_self {n : Nat} {l : List Oc} (h : ∀ o, o ∈ l → o.st = 0 → o.ws.length = n) : cutO n l = l.filter fun o => decide (o.st = 0) := by
  unfold cutO
  have : ∀ o, o ∈ l.filter (fun o => decide (o.st = 0)) → (⟨0, o.ws.take n, o.pr⟩ : Oc) = id o := fun o ho => by
    rw [List.mem_filter] at ho
    have h0 : o.st = 0 := by simpa using ho.2
    have h1 := h o ho.1 h0
    cases o with
    | mk st ws pr =>
      simp only at h0 h1
      subst h0
      rw [← h1, List.take_length]
      rfl
  rw [List.map_congr_left this, List.map_id]
theorem spin_same {n : Nat} {L : Nat → Nat} {X : Nat → Nat → Nat → Int} {words : List Int} {lk rg : Nat} {mx : Nat} {mode : Int} (hc : COk n L X words.length lk rg) (hg : rg ≤ 6) (hm : mode = 0 ∨ mode = 1) {a b c : List Oc} (hcc : Told (nxX L X 1) (outsX L X 1) (beginX n words lk rg) mx false c) (hf : ∀ o, o ∈ c → o.st ≠ 1) (ha : Told (nxX L X mode) (outsX L X mode) (beginX n words lk rg) mx false a)
    (hb : Told (nxX (lenR (bSpin words.length X) L) (numR (bSpin words.length X) L) mode) (outsX (lenR (bSpin words.length X) L) (numR (bSpin words.length X) L) mode) (beginX n (words ++ List.replicate lk 0) 0 8) mx false b) :
    cutO words.length a = onceL (cutO words.length b) := by
  obtain ⟨h1, h2⟩ := spin_told hc hg hm (told_noFall hc hcc hf hm) ha hb
  have hw := fun o ho h0 => told_words hc (by omega) ha (o := o) ho h0
  have hs : SortedO a := by
    rcases ha with ⟨e, _⟩ | ⟨_, sa, _⟩
    · cases e
    · exact sa
  refine sorted_same ?_ (once_sorted _) fun x => ?_
  · rw [cut_self hw]
    exact List.Pairwise.filter _ hs
  · rw [once_mem, mem_cutO, mem_cutO]
    constructor
    · rintro ⟨o, ho, h0, rfl⟩
      obtain ⟨q, hq, q0, q1, q2⟩ := h2 o ho h0
      refine ⟨q, hq, q0, ?_⟩
      rw [q1, q2, ← hw o ho h0, List.take_length]
    · rintro ⟨o, ho, h0, rfl⟩
      refine ⟨_, h1 o ho h0, rfl, ?_⟩
      rw [List.take_take, Nat.min_self]
end

end Go.Proofs.Ytefnmbnakphhfad
