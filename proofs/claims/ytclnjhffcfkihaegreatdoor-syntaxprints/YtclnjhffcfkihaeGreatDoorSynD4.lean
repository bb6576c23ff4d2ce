/-
  The document's parser: one more node.
  The document's parser: how tight a sign binds.
  The document's parser where it failed: it goes on to the end, and what is told stays.
  The document's parser where it failed: blocks.
  The document's parser where it goes well: nodes with their kids in memory, what an expression leaves.
  The document's parser where it goes well: a number.
-/
import Derived.Test.YtclnjhffcfkihaeGreatDoorSynG
import Derived.Deep.RegionWith
namespace Go.Proofs.YtclnjhffcfkihaeGreatDoor
section
open Go.RowKit

/-- The parser with another list of nodes. -/
theorem Aft.list {w W : World} {P : Nat} {T : List Tok} {E : Int} {d : Int} {tv lv lv' : Value} {s : Except (Int × Int) (List Tok)} (h : Aft w P T E d tv lv s) (hP : ∀ cs ty, w.heap[P]? = some (.cells cs ty) → W.heap[P]? = some (.cells (cs.setIfInBounds 4 lv') ty)) (ht : ∀ g, tv.ownBlock = some g → W.heap[g]? = w.heap[g]?) : Aft W P T E d tv lv' s := by
  have key : ∀ {i : Nat} {c a : Int}, Ps w P T E i d tv lv c a → Ps W P T E i d tv lv' c a := fun q => ⟨hP _ _ q.box, fam_keeps q.toks ht, q.apart, q.le, q.few⟩
  match s, h with
  | .ok l, ⟨i, hi, h⟩ => exact ⟨i, hi, key h⟩
  | .error q, ⟨hq, h⟩ => exact ⟨hq, key h⟩

attribute [local go_sem ↓] appS_eq

set_option maxRecDepth 100000 in
set_option maxHeartbeats 1600000 in
theorem rnode_any {w : World} {B P : Nat} {T : List Tok} {E : Int} {d : Int} {tv lv : Value} {s : Except (Int × Int) (List Tok)} (h : Aft w P T E d tv lv s) {xs : List (Row × Value)} (ho : OwnN w B lv xs) (hB : B ≤ w.heap.size) (hn : xs.length ≤ 500000) (hP : lv.ownBlock ≠ some P) (ht : ∀ g, lv.ownBlock = some g → tv.ownBlock ≠ some g) (x : Row × Value) (hx : ∃ ka kn kc, x.2 = .slice ka kn kc) :
    Calls Tryz.prog 23 #[.pointer (some ⟨P, 0, none⟩), .agg #[.int .i64 x.1.kind, .int .i64 x.1.num, .int .i64 x.1.pos, .string ⟨⟨x.1.text⟩⟩, x.2]] w fun e w' => e = .returned (.int .i64 (xs.length : Int)) ∧ ∃ lv', Aft w' P T E d tv lv' s ∧ OwnN w' B lv' (xs ++ [x]) ∧ lv'.ownBlock ≠ some P ∧ FrN P w lv w' lv' := by
  obtain ⟨i, c, a, hq⟩ := h.ps
  have c4 := hq.c4
  have kf := hq.free
  clear hq
  obtain ⟨⟨k, n, p, t, ks⟩, kv⟩ := x
  simp only at hx ⊢
  obtain ⟨ka, kn, kc, rfl⟩ := hx
  obtain ⟨la, lc, rfl⟩ := owns_slice ho
  have HA : Hid (Aft w P T E d tv (.slice la xs.length lc) s) := h
  clear h
  have hPl : P < w.heap.size := lt_of_cell c4
  have hb2 : Below w.heap.size w ((w.alloc (.cells #[.int .i64 k, .int .i64 n, .int .i64 p, .string ⟨⟨t⟩⟩, .slice ka kn kc] 53)).drew) := ((Below.refl _ _).alloc (Nat.le_refl _) _).drew
  obtain ⟨g, cap, w3, r1, r2, r3, r4⟩ := app_row (T := 22) Tryz.underlying22 infoNod rfl (by omega) ho hb2 hB 1 #[.int .i64 k, .int .i64 n, .int .i64 p, .string ⟨⟨t⟩⟩, .slice ka kn kc] rfl (by simp [Value.oneCell']) (by omega) (by omega) (by omega)
  have es : ((w.alloc (.cells #[.int .i64 k, .int .i64 n, .int .i64 p, .string ⟨⟨t⟩⟩, .slice ka kn kc] 53)).drew).heap.size = w.heap.size + 1 := by simp
  rw [es] at r1 r4
  replace r1 : (AppS #[22, 22] 22 #[.slice la xs.length lc, .slice (some ⟨w.heap.size + 1, 0, none⟩) 1 1]).run Tryz.prog (((w.alloc (.cells #[.int .i64 k, .int .i64 n, .int .i64 p, .string ⟨⟨t⟩⟩, .slice ka kn kc] 53)).alloc (.cells #[.int .i64 k, .int .i64 n, .int .i64 p, .string ⟨⟨t⟩⟩, .slice ka kn kc] 53)).drew) = .ok (.slice (some ⟨g, 0, none⟩) (xs.length + 1) cap) w3 := r1
  have d4 : w3.cell? ⟨P, 4, none⟩ = some (.slice la xs.length lc) := (r3.cell_far ⟨P, 4, none⟩ (by simp; omega) (fun e => hP e.symm)).trans (cell_up (cell_drw (cell_up c4 _)) _)
  have df : ∀ j, w3.frozen? ⟨P, j, none⟩ = false := fun j => (r3.frozen_far ⟨P, j, none⟩ (by simp; omega) (fun e => hP e.symm)).trans ((hb2.alloc (by simp) _).frozen (p := ⟨P, j, none⟩) hPl |>.trans (kf j))
  have HR : Hid (w3.ownsRow B 53 5 (.slice (some ⟨g, 0, none⟩) (xs.length + 1) cap) (xs.length + 1) (nodsV xs ++ (#[.int .i64 k, .int .i64 n, .int .i64 p, .string ⟨⟨t⟩⟩, .slice ka kn kc] : Array Value).toList)) := r2
  have HG := Hid.out (p := Hid _) (And.intro r3 r4)
  clear r2 r3 r4 es hb2
  go_enter Tryz.func23, Tryz.ntmps23
  go_wp2
  go_region
  all_goals go_wp2
  go_ret
  obtain ⟨r3, r4⟩ := HG.out
  have hgP : g ≠ P := by
    rcases r4 with r4 | r4
    · exact fun e => hP (by rw [r4, e])
    · omega
  have hblk : ∀ j, j < w.heap.size → some j ≠ (Value.slice la xs.length lc).ownBlock → w3.heap[j]? = w.heap[j]? := fun j hj hne => by
    refine (r3.block j (by simp; omega) hne).trans ?_
    exact ((((Below.refl w.heap.size w).alloc (Nat.le_refl _) _).drew).alloc (by simp) _).block j hj
  have hPb : w3.heap[P]? = w.heap[P]? := hblk P hPl fun e => hP e.symm
  refine ⟨rfl, _, HA.out.list (fun cs ty hc => heap_set9 (hPb.trans hc)) (fun j hj => ?_), ?_, ?_, ?_⟩
  · obtain ⟨i2, c2, a2, hq⟩ := HA.out.ps
    have hj2 := (hq.toks.lt j hj).2
    have hjP : j ≠ P := fun e => hq.apart (by rw [hj, e])
    exact (Below.heap_setCell _ _ _ _ hjP).trans (hblk j hj2 fun e => ht j e.symm hj)
  · unfold OwnN
    rw [List.length_append, nodsV_snoc]
    exact fam_keeps HR.out fun j hj => Below.heap_setCell _ _ _ _ (by
      have : g = j := by simpa [Value.ownBlock] using hj
      rw [← this]; exact hgP)
  · intro e
    exact hgP (by simpa [Value.ownBlock] using e)
  · refine ⟨r3.os, r3.tape, r3.output, ?_, fun j hj hjP hne => (Below.heap_setCell _ _ _ _ hjP).trans (hblk j hj hne), ?_⟩
    · have := r3.size
      simp at this ⊢
      omega
    · rcases r4 with r4 | r4
      · exact Or.inl (by rw [r4]; rfl)
      · refine Or.inr fun j hj => ?_
        have : g = j := by simpa [Value.ownBlock] using hj
        omega
end

section
open Go.RowKit

def signsN : List (List UInt8) := [[124, 124], [38, 38], [61, 61], [33, 61], [60], [60, 61], [62], [62, 61], [43], [45], [42]]
theorem lvl_none {l : List UInt8} (h : ∀ c, c ∈ signsN → l ≠ c) : lvl l = -1 := by
  simp only [signsN, List.mem_cons, List.not_mem_nil, or_false, forall_eq_or_imp, forall_eq] at h
  unfold lvl
  obtain ⟨h1, h2, h3, h4, h5, h6, h7, h8, h9, h10, h11⟩ := h
  rw [if_neg h1, if_neg h2, if_neg (by simp [h3, h4, h5, h6, h7, h8]), if_neg (by simp [h9, h10]), if_neg h11]
set_option maxRecDepth 100000 in
set_option maxHeartbeats 1600000 in
theorem rlevel_any (S : ByteArray) (w : World) :
    Calls Tryz.prog 94 #[.string S] w fun e w' => e = .returned (.int .i64 (lvl S.data.toList)) ∧ w' = w := by
  by_cases hin : S.data.toList ∈ signsN
  · simp only [signsN, List.mem_cons, List.not_mem_nil, or_false] at hin
    rcases hin with h | h | h | h | h | h | h | h | h | h | h
    all_goals
      obtain rfl := str_of h
      clear h
      go_enter Tryz.func94, Tryz.ntmps94
      go_wp2
      go_ret
      exact ⟨rfl, rfl⟩
  · have hne : ∀ c, c ∈ signsN → S.data.toList ≠ c := fun c hc e => hin (e ▸ hc)
    have hq := lvl_none hne
    rw [hq]
    have hb : ∀ c, c ∈ signsN → (S.toList == c) = false := fun c hc => by
      rw [Lib.toList_data]
      simpa using hne c hc
    simp only [signsN, List.mem_cons, List.not_mem_nil, or_false, forall_eq_or_imp, forall_eq] at hb
    obtain ⟨b1, b2, b3, b4, b5, b6, b7, b8, b9, b10, b11⟩ := hb
    clear hin hne hq
    go_enter Tryz.func94, Tryz.ntmps94
    go_wp2
    go_ret
    exact ⟨rfl, rfl⟩
end

section
open Go.RowKit

/-- The parser's list of nodes. -/
structure Lst (w : World) (B P : Nat) (tv lv : Value) (xs : List (Row × Value)) : Prop where
  own : OwnN w B lv xs
  low : B ≤ w.heap.size
  apart : lv.ownBlock ≠ some P
  far : ∀ g, lv.ownBlock = some g → tv.ownBlock ≠ some g
section
variable {w W : World} {B P : Nat} {T : List Tok} {E d : Int} {tv lv : Value} {xs : List (Row × Value)} {s : Except (Int × Int) (List Tok)} {q : Int × Int}
theorem Lst.only (h : Lst w B P tv lv xs) (ho : Only P w W) : Lst W B P tv lv xs :=
  ⟨fam_keeps h.own fun g hg => ho.block g (h.own.lt g hg).2 fun e => h.apart (by rw [hg, e]), Nat.le_trans h.low ho.size, h.apart, h.far⟩
theorem Lst.below (h : Lst w B P tv lv xs) (hb : Below w.heap.size w W) : Lst W B P tv lv xs := h.only (Only.of hb)
theorem Aft.tok_lt (h : Aft w P T E d tv lv s) {g : Nat} (hg : tv.ownBlock = some g) : g < w.heap.size := by
  obtain ⟨i, c, a, hq⟩ := h.ps
  exact (hq.toks.lt g hg).2
/-- One more node. -/
theorem rnode_lst (h : Aft w P T E d tv lv s) (hl : Lst w B P tv lv xs) (hn : xs.length ≤ 500000) (k n p : Int) (t : List UInt8) (ks : List Int) (ka : Option Addr) (kn kc : Nat) :
    Calls Tryz.prog 23 #[.pointer (some ⟨P, 0, none⟩), .agg #[.int .i64 k, .int .i64 n, .int .i64 p, .string ⟨⟨t⟩⟩, .slice ka kn kc]] w fun e w' => e = .returned (.int .i64 (xs.length : Int)) ∧ ∃ lv', Aft w' P T E d tv lv' s ∧ Lst w' B P tv lv' (xs ++ [(⟨k, n, p, t, ks⟩, .slice ka kn kc)]) ∧ FrN P w lv w' lv' := by
  refine (rnode_any h hl.own hl.low hn hl.apart hl.far (⟨k, n, p, t, ks⟩, .slice ka kn kc) ⟨ka, kn, kc, rfl⟩).mono ?_
  rintro e w' ⟨rfl, lv', h1, h2, h3, h4⟩
  refine ⟨rfl, lv', h1, ⟨h2, Nat.le_trans hl.low h4.size, h3, fun g hg ht => ?_⟩, h4⟩
  rcases h4.own with h5 | h5
  · exact hl.far g (h5 ▸ hg) ht
  · have := h5 g hg
    have := h.tok_lt ht
    omega
theorem ris_err (h : Aft w P T E d tv lv (.error q)) (S : ByteArray) :
    Calls Tryz.prog 18 #[.pointer (some ⟨P, 0, none⟩), .string S] w fun e w' => e = .returned (.bool false) ∧ Below w.heap.size w w' := ris_aft h S
theorem rname_err (h : Aft w P T E d tv lv (.error q)) :
    Calls Tryz.prog 35 #[.pointer (some ⟨P, 0, none⟩)] w fun e w' => e = .returned (.string ⟨⟨[]⟩⟩) ∧ Aft w' P T E d tv lv (.error q) ∧ Only P w w' := rname_any h
theorem rat_err (h : Aft w P T E d tv lv (.error q)) :
    Calls Tryz.prog 20 #[.pointer (some ⟨P, 0, none⟩)] w fun e w' => e = .returned (.int .i64 E) ∧ Below w.heap.size w w' := by
  refine (rat_any h.2).mono ?_
  rintro e w' ⟨rfl, hb⟩
  exact ⟨by rw [List.drop_length]; rfl, hb⟩
end

set_option maxRecDepth 100000 in
set_option maxHeartbeats 1600000 in
theorem runary_err {w : World} {B P : Nat} {T : List Tok} {E d : Int} {tv lv : Value} {xs : List (Row × Value)} {q : Int × Int} (h : Aft w P T E d tv lv (.error q)) (hl : Lst w B P tv lv xs) (hn : xs.length ≤ 500000) :
    Calls Tryz.prog 93 #[.pointer (some ⟨P, 0, none⟩)] w fun e w' => ∃ v lv' x, e = .returned (.int .i64 v) ∧ Aft w' P T E d tv lv' (.error q) ∧ Lst w' B P tv lv' (xs ++ [x]) ∧ FrN P w lv w' lv' := by
  have hfr : FrN P w lv w lv := FrN.of (Only.refl _ _)
  have HC : Hid (Aft w P T E d tv lv (.error q) ∧ Lst w B P tv lv xs ∧ FrN P w lv w lv) := ⟨h, hl, hfr⟩
  obtain ⟨ta, tc, rfl⟩ := h.2.toks.form
  have hfew := h.2.few
  clear h hl hfr
  go_enter Tryz.func93, Tryz.ntmps93
  go_wp2_with (first
    | (go_at_call 20; refine Calls.mono (rat_err HC.out.1) ?_; rintro e w1 ⟨rfl, hb⟩; replace HC := Hid.out (p := Hid _) (And.intro (HC.out.1.below hb) (And.intro (HC.out.2.1.below hb) (HC.out.2.2.trans (FrN.of (Only.of hb))))); clear hb)
    | (go_at_call 18; refine Calls.mono (ris_err HC.out.1 _) ?_; rintro e w1 ⟨rfl, hb⟩; replace HC := Hid.out (p := Hid _) (And.intro (HC.out.1.below hb) (And.intro (HC.out.2.1.below hb) (HC.out.2.2.trans (FrN.of (Only.of hb))))); clear hb))
  have hP := HC.out.1.2.lt
  have c0 := HC.out.1.2.c0
  have c2 := HC.out.1.2.c2
  replace HC := Hid.out (p := Hid _) (And.intro (HC.out.1.below (Below.refl _ _).drew) (And.intro (HC.out.2.1.below (Below.refl _ _).drew) (HC.out.2.2.trans (FrN.of (Only.of (Below.refl _ _).drew)))))
  go_region
  go_wp2_with (first
    | (go_at_call 35; refine Calls.mono (rname_err HC.out.1) ?_; rintro e w2 ⟨rfl, ha, ho⟩; replace HC := Hid.out (p := Hid _) (And.intro ha (And.intro (HC.out.2.1.only ho) (HC.out.2.2.trans (FrN.of ho)))); clear ha ho)
    | (go_at_call 23; refine Calls.mono (rnode_lst HC.out.1 HC.out.2.1 hn _ _ _ _ [] _ _ _) ?_; rintro e w3 ⟨rfl, lv', ha, hl2, hf⟩; replace HC := Hid.out (p := Hid _) (And.intro ha (And.intro hl2 (HC.out.2.2.trans hf))); clear ha hl2 hf))
  go_ret
  exact ⟨_, _, _, rfl, HC.out⟩
set_option maxRecDepth 100000 in
set_option maxHeartbeats 1600000 in
theorem rexpr_err {B P : Nat} {T : List Tok} {E d : Int} {tv : Value} {xs : List (Row × Value)} {q : Int × Int} (hn : xs.length ≤ 500000) : ∀ (j k : Nat), k + j = 5 → ∀ {w : World} {lv : Value}, Aft w P T E d tv lv (.error q) → Lst w B P tv lv xs →
    Calls Tryz.prog 66 #[.pointer (some ⟨P, 0, none⟩), .int .i64 (k : Int)] w fun e w' => ∃ v lv' x, e = .returned (.int .i64 v) ∧ Aft w' P T E d tv lv' (.error q) ∧ Lst w' B P tv lv' (xs ++ [x]) ∧ FrN P w lv w' lv'
  | 0, k, hk, w, lv, h, hl => by
    have HC := Hid.out (p := Hid _) (runary_err h hl hn)
    obtain rfl : k = 5 := by omega
    clear h hl
    go_enter Tryz.func66, Tryz.ntmps66
    go_wp2_with (go_at_call 93; refine Calls.mono HC.out ?_; rintro e w1 ⟨v, lv', x, rfl, hr⟩)
    go_ret
    exact ⟨_, _, _, rfl, hr⟩
  | j + 1, k, hk, w, lv, h, hl => by
    have HC := Hid.out (p := Hid _) (rexpr_err hn j (k + 1) (by omega) h hl)
    have hk' : ((k : Int) == 5) = false := by simp; omega
    have hk2 : k ≤ 4 := by omega
    clear h hl
    go_enter Tryz.func66, Tryz.ntmps66
    go_wp2_with (go_at_call 66; refine Calls.mono HC.out ?_; rintro e w1 ⟨v, lv', x, rfl, hr⟩; have c5 := hr.1.2.c5; have hq : (q.1 == 0) = false := by simpa using hr.1.1)
    have HR := Hid.out (p := Hid _) hr
    clear hr
    go_loopw [5] (fun l wr => l = .int .i64 v ∧ wr = w1) (fun _ _ => 0)
    case atStart => exact ⟨rfl, rfl⟩
    case round =>
      obtain ⟨rfl, rfl⟩ := hrel
      go_wp2
      go_region
      go_wp2
      go_ret
      exact ⟨v, lv', x, rfl, HR.out.1.below (Below.refl _ _).drew, HR.out.2.1.below (Below.refl _ _).drew, HR.out.2.2.trans (FrN.of (Only.of (Below.refl _ _).drew))⟩
/-- What a function leaves that goes on where it failed. -/
def ErrQ (B P : Nat) (T : List Tok) (E : Int) (tv : Value) (q : Int × Int) (w : World) (lv : Value) (n : Nat) (w' : World) : Prop := ∃ d lv' xs, Aft w' P T E d tv lv' (.error q) ∧ Lst w' B P tv lv' xs ∧ xs.length ≤ n ∧ FrN P w lv w' lv'
end

section
open Go.RowKit

set_option maxRecDepth 100000 in
set_option maxHeartbeats 1600000 in
theorem rblock_err {w : World} {B P : Nat} {T : List Tok} {E d : Int} {tv lv : Value} {xs : List (Row × Value)} {q : Int × Int} (h : Aft w P T E d tv lv (.error q)) (hl : Lst w B P tv lv xs) (hn : xs.length ≤ 500000) :
    Calls Tryz.prog 22 #[.pointer (some ⟨P, 0, none⟩)] w fun e w' => ∃ v, e = .returned (.int .i64 v) ∧ ErrQ B P T E tv q w lv (xs.length + 1) w' := by
  have HC : Hid (Aft w P T E d tv lv (.error q) ∧ Lst w B P tv lv xs ∧ FrN P w lv w lv) := ⟨h, hl, FrN.of (Only.refl _ _)⟩
  have hq : (q.1 == 0) = false := by simpa using h.1
  clear h hl
  go_enter Tryz.func22, Tryz.ntmps22
  go_wp2_with (first
    | (go_at_call 20; refine Calls.mono (rat_err HC.out.1) ?_; rintro e w1 ⟨rfl, hb⟩; replace HC := Hid.out (p := Hid _) (And.intro (HC.out.1.below hb) (And.intro (HC.out.2.1.below hb) (HC.out.2.2.trans (FrN.of (Only.of hb))))); clear hb)
    | (go_at_call 37; refine Calls.mono (ropen_any HC.out.1 _ 0 (fun l hl => by cases hl)) ?_; rintro e w1 ⟨rfl, ⟨d1, ha, _⟩, ho⟩; replace HC := Hid.out (p := Hid _) (And.intro (show Aft w1 P T E d1 tv lv (.error q) from ha) (And.intro (HC.out.2.1.only ho) (HC.out.2.2.trans (FrN.of ho)))); clear ha ho))
  have c5 := HC.out.1.2.c5
  go_loopw [4] (fun l wr => l = nilV ∧ wr = w1) (fun _ _ => 0)
  case atStart => exact ⟨rfl, rfl⟩
  case round =>
    obtain ⟨rfl, rfl⟩ := hrel
    go_wp2_with (first
      | (go_at_call 39; refine Calls.mono (rshut_any HC.out.1 _) ?_; rintro e w3 ⟨rfl, ha, ho⟩; replace HC := Hid.out (p := Hid _) (And.intro (show Aft w3 P T E _ tv lv (.error q) from ha) (And.intro (HC.out.2.1.only ho) (HC.out.2.2.trans (FrN.of ho)))); clear ha ho)
      | (go_at_call 23; refine Calls.mono (rnode_lst HC.out.1 HC.out.2.1 hn _ _ _ [] [] _ _ _) ?_; rintro e w3 ⟨rfl, lv', ha, hl2, hf⟩; replace HC := Hid.out (p := Hid _) (And.intro ha (And.intro hl2 (HC.out.2.2.trans hf))); clear ha hl2 hf))
    go_ret
    exact ⟨_, rfl, _, _, _, HC.out.1, HC.out.2.1, by simp, HC.out.2.2⟩
end

section
open Go.RowKit

/-- A node's kids lie where its slice says, apart from the parser and its list. -/
structure KdAt (w : World) (P : Nat) (lv : Value) (x : Row × Value) : Prop where
  own : w.ownsRow 0 3 1 x.2 x.1.kids.length (x.1.kids.map fun k => .int .i64 k)
  apart : x.2.ownBlock ≠ some P
  far : ∀ g, x.2.ownBlock = some g → lv.ownBlock ≠ some g
theorem KdAt.fr {w w' : World} {P : Nat} {lv lv' : Value} {x : Row × Value} (h : KdAt w P lv x) (hf : FrN P w lv w' lv') : KdAt w' P lv' x := by
  have hlt : ∀ g, x.2.ownBlock = some g → g < w.heap.size := fun g hg => (h.own.lt g hg).2
  refine ⟨fam_keeps h.own fun g hg => hf.block g (hlt g hg) (fun e => h.apart (by rw [hg, e])) fun e => h.far g hg e.symm, h.apart, fun g hg e => ?_⟩
  rcases hf.own with h1 | h1
  · exact h.far g hg (h1 ▸ e)
  · have := h1 g e
    have := hlt g hg
    omega
/-- The parser that goes well: its state, its nodes with their kids. -/
structure OkS (w : World) (B P : Nat) (T : List Tok) (E : Int) (d : Nat) (tv lv : Value) (l : List Tok) (xs : List (Row × Value)) : Prop where
  aft : Aft w P T E (d : Int) tv lv (.ok l)
  lst : Lst w B P tv lv xs
  kid : ∀ x, x ∈ xs → KdAt w P lv x
  few : xs.length + l.length ≤ T.length
theorem OkS.only {w w' : World} {B P : Nat} {T : List Tok} {E : Int} {d d' : Nat} {tv lv : Value} {l l' : List Tok} {xs : List (Row × Value)} (h : OkS w B P T E d tv lv l xs) (ho : Only P w w') (ha : Aft w' P T E (d' : Int) tv lv (.ok l')) (hl : l'.length ≤ l.length) : OkS w' B P T E d' tv lv l' xs :=
  ⟨ha, h.lst.only ho, fun x hx => (h.kid x hx).fr (FrN.of ho), by have := h.few; omega⟩
/-- What an expression (a statement, a block) leaves, xs being the nodes ahead of it; M: the most nodes where it failed. -/
def TreeQ (B P : Nat) (T : List Tok) (E : Int) (d : Nat) (tv : Value) (w : World) (lv : Value) (M : Nat) (xs : List (Row × Value)) (r : TRes Nd) (e : Ending) (w' : World) : Prop :=
  match r with
  | .ok (x, q) => e = .returned (.int .i64 ((xs.length + ndSize x : Nat) - 1 : Int)) ∧ ∃ lv' ys, OkS w' B P T E d tv lv' q (xs ++ ys) ∧ ys.map Prod.fst = flat xs.length x ∧ FrN P w lv w' lv' ∧ ∀ y, y ∈ ys → y.2 = nilV
  | .error q => ∃ v, e = .returned (.int .i64 v) ∧ ErrQ B P T E tv q w lv M w'
theorem OkS.node {w w' : World} {B P : Nat} {T : List Tok} {E : Int} {d : Nat} {tv lv lv' : Value} {l : List Tok} {xs : List (Row × Value)} {x : Row × Value} (h : OkS w B P T E d tv lv l xs) (ha : Aft w' P T E (d : Int) tv lv' (.ok l)) (hl : Lst w' B P tv lv' (xs ++ [x])) (hf : FrN P w lv w' lv') (hx : KdAt w P lv x) (hfew : xs.length + 1 + l.length ≤ T.length) : OkS w' B P T E d tv lv' l (xs ++ [x]) := by
  refine ⟨ha, hl, fun y hy => ?_, by simp only [List.length_append, List.length_cons, List.length_nil]; omega⟩
  rcases List.mem_append.1 hy with hy | hy
  · exact (h.kid y hy).fr hf
  · obtain rfl : y = x := by simpa using hy
    exact hx.fr hf
/-- No kids. -/
theorem kd_none (w : World) (P : Nat) (lv : Value) (k n p : Int) (t : List UInt8) : KdAt w P lv (⟨k, n, p, t, []⟩, nilV) :=
  ⟨World.ownsRow_nil _ _ _ _, by simp [Value.ownBlock], fun g hg => by simp [Value.ownBlock] at hg⟩
end

section
open Go.RowKit

theorem is_false (S : List UInt8) (t : Tok) (r : List Tok) (h : t.kind = 3 ∨ t.kind = 1) : isTok S (t :: r) = false := by
  unfold isTok
  rcases h with h | h <;> simp [h]
set_option maxRecDepth 100000 in
set_option maxHeartbeats 1600000 in
theorem runary_num {w : World} {B P : Nat} {T : List Tok} {E : Int} {d : Nat} {tv lv : Value} {k v p : Int} {t : List UInt8} {r : List Tok} {xs : List (Row × Value)} (h : OkS w B P T E d tv lv (⟨k, v, p, t⟩ :: r) xs) (hk : k = 3) (M : Nat) :
    Calls Tryz.prog 93 #[.pointer (some ⟨P, 0, none⟩)] w fun e w' => TreeQ B P T E d tv w lv M xs (.ok (.mk 15 v p [] [], r)) e w' := by
  subst hk
  have hfew := h.few
  obtain ⟨i, hi, hps⟩ := h.aft
  have hlt : i < T.length := by
    rcases Nat.lt_or_ge i T.length with h1 | h1
    · exact h1
    · rw [List.drop_eq_nil_of_le h1] at hi; cases hi
  have hgd := getD_drop hlt
  rw [hi] at hgd
  simp only [List.cons.injEq] at hgd
  obtain ⟨hg1, hg2⟩ := hgd
  have hT := hps.few
  obtain ⟨ta, tc, rfl⟩ := hps.toks.form
  have HP : Hid (Ps w P T E i d (.slice ta T.length tc) lv 0 0) := hps
  have HI : Hid (∀ S : ByteArray, isTok S.data.toList (T.drop i) = false) := fun S => by rw [hi]; exact is_false _ _ _ (Or.inl rfl)
  have HPO : Hid (posOf E (T.drop i) = p) := by show _ = _; rw [hi]; rfl
  have HOK := Hid.out (p := Hid _) h
  have HFR : Hid (Below w.heap.size w w) := Below.refl _ _
  clear h hps
  go_enter Tryz.func93, Tryz.ntmps93
  go_wp2_with (first
    | (go_at_call 20; refine Calls.mono (rat_any HP.out) ?_; rintro e w1 ⟨rfl, hb⟩; rw [HPO.out]; replace HP := Hid.out (p := Hid _) (HP.out.below hb); replace HFR := Hid.out (p := Hid _) (HFR.out.trans (hb.mono HFR.out.size)); clear hb)
    | (go_at_call 18; refine Calls.mono (ris_any HP.out _) ?_; rintro e w1 ⟨rfl, hb⟩; rw [HI.out]; replace HP := Hid.out (p := Hid _) (HP.out.below hb); replace HFR := Hid.out (p := Hid _) (HFR.out.trans (hb.mono HFR.out.size)); clear hb))
  have hP := HP.out.lt
  have c0 := HP.out.c0
  have c2 := HP.out.c2
  have kf := HP.out.free
  obtain ⟨g, rfl, t0, t1, t2, t3⟩ := HP.out.toks.cells hlt
  have hg : g < _ := lt_of_cell t0
  have hgP : g ≠ P := fun e => HP.out.apart (by rw [← e]; rfl)
  rw [← hg1] at t0 t1 t2 t3
  simp only at t0 t1 t2 t3 hg
  have hlt' : (i : Int) < (T.length : Int) := by omega
  go_region
  go_wp2_with fail
  have ho2 : Only P w1 ((w1.setCell ⟨P, 2, none⟩ (.int .i64 ((i : Int) + 1))).drew.drew) := (((Only.refl _ _).set _ _).drew).drew
  have hps2 : Ps ((w1.setCell ⟨P, 2, none⟩ (.int .i64 ((i : Int) + 1))).drew.drew) P T E (i + 1) d (.slice (some ⟨g, 0, none⟩) T.length tc) lv 0 0 := HP.out.next ho2 hlt (heap_set9 HP.out.box)
  have HOK2 : Hid (OkS ((w1.setCell ⟨P, 2, none⟩ (.int .i64 ((i : Int) + 1))).drew.drew) B P T E d (.slice (some ⟨g, 0, none⟩) T.length tc) lv r xs) := HOK.out.only ((Only.of HFR.out).trans ho2) ⟨i + 1, hg2.symm, hps2⟩ (by simp)
  have HF2 : Hid (FrN P w lv ((w1.setCell ⟨P, 2, none⟩ (.int .i64 ((i : Int) + 1))).drew.drew) lv) := FrN.of ((Only.of HFR.out).trans ho2)
  have hn : xs.length ≤ 500000 := by omega
  have HFW : Hid (xs.length + 1 + r.length ≤ T.length) := by show _ ≤ _; simp only [List.length_cons] at hfew; omega
  clear ho2 hps2
  have hs1 : (i : Int) + 1 - 1 = (i : Int) := by omega
  have hfew2 : T.length ≤ 4000 := hT
  clear hfew hi hg1 hg2
  have d0 : (w1.setCell ⟨P, 2, none⟩ (.int .i64 ((i : Int) + 1))).drew.cell? ⟨P, 0, none⟩ = some (.slice (some ⟨g, 0, none⟩) T.length tc) := box_cell (heap_set9 HP.out.box) rfl
  have d2 : (w1.setCell ⟨P, 2, none⟩ (.int .i64 ((i : Int) + 1))).drew.cell? ⟨P, 2, none⟩ = some (.int .i64 ((i : Int) + 1)) := box_cell (heap_set9 HP.out.box) rfl
  have d3 : (w1.setCell ⟨P, 2, none⟩ (.int .i64 ((i : Int) + 1))).drew.cell? ⟨g, i * 4 + 1, none⟩ = some (.int .i64 v) := cell_far9 t1 hgP
  generalize hV : (w1.setCell ⟨P, 2, none⟩ (.int .i64 ((i : Int) + 1))).drew = V at d0 d2 d3 HOK2 HF2 ⊢
  clear c0 c2 t0 t1 t2 t3 kf hg hV
  refine region_tail 15 (by kernel_rfl) (by kernel_rfl) ?_
  simp only [List.take_succ_cons, List.take_zero, List.drop_succ_cons, List.drop_zero]
  have hw : IntKind.i64.wrap (i : Int) = (i : Int) := by first | (simp [IntKind.wrap, IntKind.bits, IntKind.signed]; omega) | (simp [IntKind.wrap]; omega) | go_num
  iterate 11 still_step
  still_step
  iterate 3 still_step
  refine wpStill_nil ?_
  go_wp2_with (go_at_call 23; refine Calls.mono (rnode_lst HOK2.out.aft HOK2.out.lst hn 15 v p [] [] none 0 0) ?_; rintro e w3 ⟨rfl, lv', ha, hl2, hf⟩; have HQ := Hid.out (p := Hid _) (And.intro ha (And.intro hl2 hf)); clear ha hl2 hf)
  go_ret
  refine ⟨by simp [ndSize, ndsSize], lv', [(⟨15, v, p, [], []⟩, nilV)], HOK2.out.node HQ.out.1 HQ.out.2.1 HQ.out.2.2 (kd_none _ _ _ _ _ _ _) HFW.out, rfl, HF2.out.trans HQ.out.2.2, fun y hy => (by simp at hy; rw [hy])⟩
end

end Go.Proofs.YtclnjhffcfkihaeGreatDoor
