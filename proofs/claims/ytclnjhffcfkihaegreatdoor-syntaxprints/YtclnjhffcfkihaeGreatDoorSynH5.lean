/-
  The document's parser: every global.
  There are no more tokens than bytes.
  The document's Parse: how it begins, its rounds, how it ends.
  The program's tokens: what was taken.
  The program's tokens: names and numbers.
-/
import Derived.Test.YtclnjhffcfkihaeGreatDoorSynH4
import Derived.Test.YtclnjhffcfkihaeGreatDoorSynG
import Derived.Test.YtclnjhffcfkihaeGreatDoorLexP
import Derived.Test.YtclnjhffcfkihaeGreatDoorLexZ5
import Derived.Test.YtclnjhffcfkihaeGreatDoorLexA3
import Derived.Deep.RegionHeld3
namespace Go.Proofs.YtclnjhffcfkihaeGreatDoor
section
open Go.RowKit

section
variable {E : Int} {l : List Tok}
/-- Every global: the document's parser reads it. -/
theorem rglobal_all (hok : ToksOk l) (h : isTok wInt l = true ∨ isTok wLock l = true) : Ctr 19 [] E 0 l (globalT E l) 4010 := by
  rcases h with h | h
  · cases hn : nameT E l.tail with
    | error f => exact rglobal_int h (by simp only [namE, hn, isE])
    | ok y =>
      obtain ⟨s, r⟩ := y
      by_cases heq : isTok [61] r = true
      · have hr : r = l.tail.tail := (name_ok hok.tail hn).2
        cases hm : isTok [45] r.tail with
        | true =>
          have ht : ToksOk r.tail.tail := by rw [hr]; exact hok.tail.tail.tail.tail
          by_cases hk : ∃ tk r3, r.tail.tail = tk :: r3 ∧ tk.kind = 3
          · obtain ⟨tk, r3, h2, hk⟩ := hk
            refine rglobal_neg_num h hn heq hm h2 hk ?_
            have h5 := (tnum_ok (e := E) ht (show tnumT E r.tail.tail = .ok (tk.num, r3) by rw [h2, tnumT, if_pos hk]))
            exact ⟨h5.1, h5.2.1⟩
          · exact rglobal_neg_bad h hn heq hm fun tk r3 h2 hk2 => hk ⟨tk, r3, h2, hk2⟩
        | false =>
          by_cases hk : ∃ tk r3, r.tail = tk :: r3 ∧ tk.kind = 3
          · obtain ⟨tk, r3, h2, hk⟩ := hk
            exact rglobal_pos_num h hn heq hm h2 hk
          · exact rglobal_pos_bad h hn heq hm fun tk r3 h2 hk2 => hk ⟨tk, r3, h2, hk2⟩
      · exact rglobal_int h (by simp only [namE, hn, isE]; simpa using heq)
  · exact rglobal_lock h
end
end

section
theorem scanF_len : ∀ (f i : Nat) (l : List UInt8) (acc : List Tok), (scanF f i l acc).1.length ≤ acc.length + l.length
  | 0, _, _, acc => by simp [scanF]
  | f + 1, i, l, acc => by
    rw [scanF]
    split
    · simp
    · split
      · simp
      · split
        · simp
        · rename_i k v m h
          have h1 := oneL_len h
          have h2 := scanF_len f (i + (skipL false l).1 + m) ((l.drop (skipL false l).1).drop m) (acc ++ [⟨k, v, ((i + (skipL false l).1 : Nat) : Int), (l.drop (skipL false l).1).take m⟩])
          simp only [List.length_append, List.length_cons, List.length_nil, List.length_drop] at h1 h2 ⊢
          omega
theorem scanL_len (l : List UInt8) : (scanL l).1.length ≤ 4000 := by
  unfold scanL
  split
  · simp
  · have := scanF_len (l.length + 1) 0 l []
    simp only [List.length_nil] at this
    omega
end

section
open Go.RowKit

/-- Nodes in memory, with their kids. -/
def NodesIn (w : World) (B : Nat) (v : Value) (rows : List Row) : Prop := ∃ ys : List (Row × Value), OwnN w B v ys ∧ ys.map Prod.fst = rows ∧ ∀ y, y ∈ ys → w.ownsRow 0 3 1 y.2 y.1.kids.length (y.1.kids.map fun k => .int .i64 k)
/-- What Parse tells. -/
def ParseQ (B : Nat) (r : List Row × (Int × Int)) (e : Ending) (w' : World) : Prop :=
  ∃ v, e = .returned (.tuple #[v, .agg #[.int .i64 r.2.1, .int .i64 0, .int .i64 r.2.2]]) ∧ NodesIn w' B v r.1
theorem nodes_nil (w : World) (B : Nat) : NodesIn w B nilV [] := ⟨[], World.ownsRow_nil _ _ _ _, rfl, fun y hy => by simp at hy⟩

section
variable {C : Cx9} {w w' : World} {d M : Nat} {bx : Option (Nat × Obj)} {ps : List (List Int × Value)} {s : Except (Int × Int) (List Tok)} {rows : List Row}
theorem GoS.pslt (h : GoS C w d M bx ps s rows) : ∀ p, p ∈ ps → ∀ g, p.2.ownBlock = some g → g < w.heap.size := by
  obtain ⟨lv, h⟩ := h
  exact fun p hp g hg => ((h.ps p hp).kd.own.lt g hg).2
/-- The parser at its beginning. -/
theorem go_start (W : World) (P : Nat) (T : List Tok) (E : Int) (tv : Value) (hP : W.heap[P]? = some (.cells #[tv, .int .i64 E, .int .i64 0, .int .i64 0, nilV, .int .i64 0, .int .i64 0, .int .i64 0] 48)) (ht : OwnT W 0 tv T) (hap : tv.ownBlock ≠ some P) (hT : T.length ≤ 4000) (N : Nat) :
    GoS ⟨W, nilV, P, P, T, E, tv, fun _ => False⟩ W 0 N none [] (.ok T) [] := by
  have hPl : P < W.heap.size := by
    rcases Nat.lt_or_ge P W.heap.size with h1 | h1
    · exact h1
    · rw [Array.getElem?_eq_none h1] at hP; cases hP
  refine ⟨nilV, FrN.of (Only.refl _ _), fun z hz => (by cases hz), fun p hp => (by simp at hp), [], ⟨⟨0, rfl, ⟨hP, ht, hap, Nat.zero_le _, hT⟩⟩, ⟨World.ownsRow_nil _ _ _ _, Nat.le_of_lt hPl, by simp [Value.ownBlock], fun g hg => by simp [Value.ownBlock] at hg⟩, fun x hx => by simp at hx, by simp⟩, rfl, fun y hy => by simp at hy⟩
theorem GoS.frame (h : GoS C w d M bx ps s rows) (hl : C.lv0 = nilV) {B : Nat} (hB : B ≤ C.P) (hBw : B ≤ C.w0.heap.size) : Below B C.w0 w := by
  obtain ⟨lv, h⟩ := h
  exact ⟨h.fr.os, h.fr.tape, h.fr.output, h.fr.size, fun k hk => h.fr.block k (by omega) (by omega) (by rw [hl]; simp [Value.ownBlock])⟩
theorem GoS.keeps (h : GoS C w d M bx ps s rows) (hl : C.lv0 = nilV) {k : Nat} (hk : k < C.w0.heap.size) (hne : k ≠ C.P) : w.heap[k]? = C.w0.heap[k]? := by
  obtain ⟨lv, h⟩ := h
  exact h.fr.block k hk hne (by rw [hl]; simp [Value.ownBlock])
end

theorem GoS.errp {C : Cx9} {w : World} {d M : Nat} {bx : Option (Nat × Obj)} {ps : List (List Int × Value)} {f : Int × Int} {rows : List Row} (h : GoS C w d M bx ps (.error f) rows) : f.1 ≠ 0 ∧ ∃ i d1 lv, Ps w C.P C.T C.E i d1 C.tv lv f.1 f.2 := by
  obtain ⟨lv, h⟩ := h
  obtain ⟨d1, ys, h1, _⟩ := h.st
  exact ⟨h1.1, _, d1, lv, h1.2⟩
/-- All nodes are there. -/
structure FinS (C : Cx9) (w : World) (rows : List Row) (lv : Value) : Prop where
  ps : ∃ i d1, Ps w C.P C.T C.E i d1 C.tv lv 0 0
  nds : NodesIn w C.B lv rows
  apart : lv.ownBlock ≠ some C.P
  kid : ∃ ys : List (Row × Value), OwnN w C.B lv ys ∧ ys.map Prod.fst = rows ∧ ∀ y, y ∈ ys → y.2.ownBlock ≠ some C.P ∧ w.ownsRow 0 3 1 y.2 y.1.kids.length (y.1.kids.map fun k => .int .i64 k)
  low : ∀ k, k < C.w0.heap.size → k ≠ C.P → some k ≠ C.lv0.ownBlock → w.heap[k]? = C.w0.heap[k]?
  os : w.os = C.w0.os
  tape : w.tape = C.w0.tape
  output : w.output = C.w0.output
  size : C.w0.heap.size ≤ w.heap.size
/-- The last node. -/
theorem glast {C : Cx9} {w : World} {M : Nat} {ka : Option Addr} {kn kc : Nat} {ks : List Int} {l : List Tok} {rows : List Row} (h : GoS C w 0 M none [(ks, .slice ka kn kc)] (.ok l) rows) :
    Calls Tryz.prog 23 #[.pointer (some ⟨C.P, 0, none⟩), .agg #[.int .i64 1, .int .i64 0, .int .i64 0, .string ⟨#[]⟩, .slice ka kn kc]] w fun e w' => ∃ v, e = .returned (.int .i64 v) ∧ ∃ lv, FinS C w' (rows ++ [⟨1, 0, 0, [], ks⟩]) lv := by
  have hfew := h.few
  have hfw := h.fewR
  obtain ⟨lv, h⟩ := h
  obtain ⟨ys, hok, hr, hkb⟩ := h.st
  have hl : ys.length = rows.length := by rw [← hr, List.length_map]
  have hkd := (h.ps _ (List.mem_cons_self ..)).kd
  refine (rnode_lst hok.aft hok.lst (by omega) 1 0 0 [] ks ka kn kc).mono ?_
  rintro e w' ⟨rfl, lv', ha, hl', hfr⟩
  refine ⟨_, rfl, lv', ?_⟩
  have hf2 := h.fr.trans hfr
  obtain ⟨i, _, hp⟩ := ha
  have hk : ∀ y, y ∈ ys ++ [((⟨1, 0, 0, [], ks⟩ : Row), Value.slice ka kn kc)] → y.2.ownBlock ≠ some C.P ∧ w'.ownsRow 0 3 1 y.2 y.1.kids.length (y.1.kids.map fun k => .int .i64 k) := fun y hy => by
    rcases List.mem_append.1 hy with hy | hy
    · have := (hok.kid y hy).fr hfr
      exact ⟨this.apart, this.own⟩
    · obtain rfl : y = (⟨1, 0, 0, [], ks⟩, .slice ka kn kc) := by simpa using hy
      have := hkd.fr hfr
      exact ⟨this.apart, this.own⟩
  have hm : (ys ++ [((⟨1, 0, 0, [], ks⟩ : Row), Value.slice ka kn kc)]).map Prod.fst = rows ++ [⟨1, 0, 0, [], ks⟩] := by rw [List.map_append, hr]; rfl
  exact ⟨⟨i, _, hp⟩, ⟨_, hl'.own, hm, fun y hy => (hk y hy).2⟩, hl'.apart, ⟨_, hl'.own, hm, hk⟩, hf2.block, hf2.os, hf2.tape, hf2.output, hf2.size⟩

/-- A round of globals. -/
inductive GlI (C : Cx9) (M : Nat) (G : TRes (List Nd)) (g : Nat) (kv : Value) (wr : World) : Prop where
  | ok (xs : List Nd) (q : List Tok) (n : Nat) (hg : GoS C wr 0 M none [(idxs 0 xs, kv)] (.ok q) (flats 0 xs)) (hG : globalsT C.E n xs q = G) (hn : q.length ≤ n) (hs : ndsSize xs + q.length ≤ C.T.length) (hm : q.length + 2 ≤ g) (hq : ToksOk q)
  | err (f : Int × Int) (ks : List Int) (hg : GoS C wr 0 M none [(ks, kv)] (.error f) []) (hG : G = .error f) (hm : 1 ≤ g)
/-- A round of threads. -/
inductive ThI (C : Cx9) (M : Nat) (Z : TRes (List Nd)) (g : Nat) (kv : Value) (wr : World) : Prop where
  | ok (xs : List Nd) (q : List Tok) (hg : GoS C wr 0 M none [(idxs 0 xs, kv)] (.ok q) (flats 0 xs)) (hZ : threadsT C.E xs q = Z) (hs : ndsSize xs + q.length ≤ C.T.length) (hm : q.length + 2 ≤ g)
  | err (f : Int × Int) (ks : List Int) (hg : GoS C wr 0 M none [(ks, kv)] (.error f) []) (hZ : Z = .error f) (hm : 1 ≤ g)
theorem global_size {e : Int} {l r : List Tok} {x : Nd} (hl : ToksOk l) (h : globalT e l = .ok (x, r)) : ndSize x = 1 ∧ r.length < l.length ∧ ToksOk r := by
  have hw := global_wf hl h
  have key : ndSize x = 1 ∧ r.length < l.length := by
    unfold globalT at h
    split at h
    · cases hn : nameT e l.tail with
      | error f => rw [hn] at h; cases h
      | ok y =>
        obtain ⟨s, q⟩ := y
        rw [hn] at h
        simp only at h
        cases ht : takeT e [59] q with
        | error f => rw [ht] at h; cases h
        | ok p =>
          rw [ht] at h
          have h1 := Except.ok.inj h
          simp only [Prod.mk.injEq] at h1
          have h2 := name_len hn
          have h3 := take_len ht
          have h4 := tail_le l
          rw [← h1.1, ← h1.2]
          exact ⟨rfl, by omega⟩
    · cases ht0 : takeT e wInt l with
      | error f => rw [ht0] at h; cases h
      | ok l1 =>
        rw [ht0] at h
        simp only at h
        have h0 := take_len ht0
        cases hn : nameT e l1 with
        | error f => rw [hn] at h; cases h
        | ok y =>
          obtain ⟨s, q⟩ := y
          rw [hn] at h
          simp only at h
          have h2 := name_len hn
          split at h
          · split at h
            · cases h
            · rename_i v p hv
              have h5 := tnum_len hv
              cases ht : takeT e [59] p with
              | error f => rw [ht] at h; cases h
              | ok z =>
                rw [ht] at h
                have h1 := Except.ok.inj h
                simp only [Prod.mk.injEq] at h1
                have h3 := take_len ht
                have h4 := tail_le q
                have h6 := tail_le q.tail
                rw [← h1.1, ← h1.2]
                refine ⟨rfl, ?_⟩
                split at h5 <;> omega
          · cases ht : takeT e [59] q with
            | error f => rw [ht] at h; cases h
            | ok z =>
              rw [ht] at h
              have h1 := Except.ok.inj h
              simp only [Prod.mk.injEq] at h1
              have h3 := take_len ht
              rw [← h1.1, ← h1.2]
              exact ⟨rfl, by omega⟩
  exact ⟨key.1, key.2, hw.2⟩
end

section
open Go.RowKit

theorem wrap_less (k t : Nat) (h : k ≤ 4000) (h2 : t ≤ k) : IntKind.i64.wrap ((k : Int) - (t : Int)) = (k : Int) - (t : Int) := by
  rw [IntKind.wrap_i64]
  omega
theorem lexClone_any (t : ByteArray) (ht : t.size ≤ 4000) (w : World) :
    Calls Tryz.prog 128 #[.string t] w fun e w' => e = .returned (.string t) ∧ Below w.heap.size w w' := by
  go_enter Tryz.func128, Tryz.ntmps128
  go_wp2_with (first | (go_at_call 145; refine (Tryz.stringslite_Clone t _ (by omega)).mono ?_; rintro e w' ⟨rfl, hb⟩))
  go_ret
  exact ⟨rfl, hb⟩

set_option maxRecDepth 100000 in
set_option maxHeartbeats 800000 in
theorem taken_any (sb : Nat) (s : ByteArray) (k : Nat) (hk : k ≤ 4000) (kind : Int) (t : ByteArray) (ht : t.size ≤ k) (w : World) (h : Sc w sb s k) :
    Calls Tryz.prog 111 #[.pointer (some ⟨sb, 0, none⟩), .int .i64 kind, .string t] w fun e w' => e = .returned (.agg #[.int .i64 kind, .int .i64 0, .int .i64 ((k : Int) - (t.size : Int)), .string t]) ∧ Below w.heap.size w w' := by
  have h0 := h.c0
  have h1 := h.c1
  go_enter Tryz.func111, Tryz.ntmps111
  go_wp2_with fail
  obtain ⟨V, hV⟩ : ∃ V, w.alloc (.cells #[.int .i64 0, .int .i64 0, .int .i64 0, .string ⟨#[]⟩] 66) = V := ⟨_, rfl⟩
  have hbV : Below w.heap.size w V := by rw [← hV]; exact (Below.refl _ _).alloc (Nat.le_refl _) _
  have hxV : V.heap[w.heap.size]? = some (.cells #[.int .i64 0, .int .i64 0, .int .i64 0, .string ⟨#[]⟩] 66) := by rw [← hV]; exact heap_alloc_new _ _
  have hlV : w.heap.size < V.heap.size := by rw [← hV]; simp
  have v1 : V.cell? ⟨sb, 1, none⟩ = some (.int .i64 (k : Int)) := (h.below hbV).c1
  have HSV : Hid (sb < V.heap.size) := (h.below hbV).lt
  have hne : ¬ sb = w.heap.size := by have := h.lt; omega
  have hne' : ¬ w.heap.size = sb := fun e => hne e.symm
  rw [hV]
  have q0 : V.cell? ⟨w.heap.size, 0, none⟩ = some (.int .i64 0) := box_cell hxV rfl
  have q1 : V.cell? ⟨w.heap.size, 1, none⟩ = some (.int .i64 0) := box_cell hxV rfl
  have q2 : V.cell? ⟨w.heap.size, 2, none⟩ = some (.int .i64 0) := box_cell hxV rfl
  have q3 : V.cell? ⟨w.heap.size, 3, none⟩ = some (.string ⟨#[]⟩) := box_cell hxV rfl
  have qf : ∀ i, V.frozen? ⟨w.heap.size, i, none⟩ = false := fun i => box_free hxV
  have HLV : Hid (w.heap.size < V.heap.size) := hlV
  have HBV := Hid.out (p := Hid _) hbV
  clear hV h h0 h1 hxV hlV hbV
  go_region_held3 (fun w' => w'.cell? ⟨sb, 1, none⟩ = some (.int .i64 (k : Int))) (go_keep)
    (first | (go_at_call 128; refine (lexClone_any t (by omega) _).mono ?_; rintro e w7 ⟨rfl, hb7⟩; have hc7 := hb7.cell (p := ⟨sb, 1, none⟩) HSV.out; have hd7 := fun i => hb7.cell (p := ⟨w.heap.size, i, none⟩) HLV.out; have hf7 := fun i => hb7.frozen (p := ⟨w.heap.size, i, none⟩) HLV.out))
  rw [wrap_less k t.size hk ht]
  go_wp2
  have hw7 : Below w.heap.size w w7 := HBV.out.trans (Below.mono ((Below.refl _ _).drew.trans hb7) HBV.out.size)
  refine bodyPost_ret (v := .agg #[.int .i64 kind, .int .i64 0, .int .i64 ((k : Int) - (t.size : Int)), .string t]) (by simp [results, Tryz.results111, go_sem, hd7, q0, q1, q2, q3]) rfl ⟨rfl, ?_⟩
  exact (((hw7.setCell (Nat.le_refl _) _).setCell (Nat.le_refl _) _).setCell (Nat.le_refl _) _).setCell (Nat.le_refl _) _
end

section
open Go.RowKit

/-- A token of the program: its kind, number and length, or none. -/
def TokQ (W : World) (sb : Nat) (s : ByteArray) (i : Nat) (e : Ending) (w' : World) : Prop :=
  W.grownBy w' (some sb) ∧ match oneL (s.data.toList.drop i) with
    | none => e = .panicked (badT i)
    | some (k, v, m) => e = .returned (.agg #[.int .i64 k, .int .i64 v, .int .i64 i, .string (s.extract i (i + m))]) ∧ Sc w' sb s (i + m)

theorem grown_high {w V : World} {row : Option Nat} (h : w.grownBy V row) {a : Addr} (ha : w.heap.size ≤ a.block) (v : Value) : w.grownBy (V.setCell a v) row :=
  ⟨h.os, h.tape, h.output, by simpa [World.setCell] using h.size, fun j hj hr => (Below.heap_setCell _ _ _ _ (by omega)).trans (h.block j hj hr)⟩
theorem grown_alloc {w V : World} {row : Option Nat} (h : w.grownBy V row) (o : Obj) : w.grownBy (V.alloc o) row := grown_then h (grown_of_below ((Below.refl _ _).alloc (Nat.le_refl _) o) row)
theorem Sc.far {w : World} {sb : Nat} {s : ByteArray} {k : Nat} (h : Sc w sb s k) {a : Addr} (ha : a.block ≠ sb) (v : Value) : Sc (w.setCell a v) sb s k := (Below.heap_setCell _ _ _ _ (fun e => ha e.symm)).trans h
theorem Sc.more {w : World} {sb : Nat} {s : ByteArray} {k : Nat} (h : Sc w sb s k) (o : Obj) : Sc (w.alloc o) sb s k := h.below ((Below.refl _ _).alloc (Nat.le_refl _) o)
theorem extract_size (s : ByteArray) (i n : Nat) (h : i + n ≤ s.size) : (s.extract i (i + n)).size = n := by
  rw [ByteArray.size_extract]; omega

set_option maxRecDepth 100000 in
set_option maxHeartbeats 1600000 in
theorem lexName_any (sb : Nat) (s : ByteArray) (hs : s.size ≤ 4000) (i : Nat) (hi : i < s.size) (hl : isLet s[i] = true) (w : World) (h : Sc w sb s i) :
    Calls Tryz.prog 83 #[.pointer (some ⟨sb, 0, none⟩)] w fun e w' => TokQ w sb s i e w' := by
  have hmf : ∀ (fn : Fn) (first cap : Array Value) (w : World), (Instr.makeFunc fn first cap).run Tryz.prog w = .ok (.func fn first cap) w := fun _ _ _ _ => rfl
  obtain ⟨N, hN⟩ : ∃ N, 1 + twAt isNam s (i + 1) = N := ⟨_, rfl⟩
  have hN2 : i + twAt isNam s i = i + N := by rw [twAt_more hi (by simp [isNam, hl]), ← hN]; omega
  have hle : i + N ≤ s.size := by rw [← hN2]; exact twAt_le (by omega)
  have HQ : Hid (oneL (s.data.toList.drop i) = if 12 < N then none else some (kindW (s.extract i (i + N)).data.toList, 0, N)) := oneL_name hi hl hN
  have HN2 := Hid.out (p := Hid _) hN2
  obtain ⟨x, hx⟩ : ∃ x : ByteArray, s.extract i (i + N) = x := ⟨_, rfl⟩
  have hxs : x.size = N := by rw [← hx]; exact extract_size s i N hle
  have HX := Hid.out (p := Hid _) hx
  clear hN hN2 hx
  have hA : Below w.heap.size w (w.alloc (.cells #[.int .i64 0, .int .i64 0, .int .i64 0, .string ⟨#[]⟩] 66)) := (Below.refl _ _).alloc (Nat.le_refl _) _
  have hSA := h.below hA
  have hAx : (w.alloc (.cells #[.int .i64 0, .int .i64 0, .int .i64 0, .string ⟨#[]⟩] 66)).heap[w.heap.size]? = some (.cells #[.int .i64 0, .int .i64 0, .int .i64 0, .string ⟨#[]⟩] 66) := heap_alloc_new _ _
  have hAl : w.heap.size < (w.alloc (.cells #[.int .i64 0, .int .i64 0, .int .i64 0, .string ⟨#[]⟩] 66)).heap.size := by simp
  have hne : some w.heap.size ≠ some sb := by have := h.lt; simp; omega
  have HA := Hid.out (p := Hid _) (And.intro hA (And.intro hSA (And.intro hAx (And.intro hAl hne))))
  clear hA hSA hAx hAl hne
  by_cases h12 : 12 < N
  · have h12' : 12 < (x.size : Int) := by omega
    have HQ2 : Hid (∀ e w', w.grownBy w' (some sb) → e = .panicked (badT i) → TokQ w sb s i e w') := fun e w' hg he => by
      unfold TokQ
      rw [HQ.out, if_pos h12]
      exact ⟨hg, he⟩
    go_enter Tryz.func83, Tryz.ntmps83
    go_wp2_with (first | (go_at_call 108; refine (take_nam sb s hs i (by omega) (i + N) HN2 _ HA.out.2.1).mono ?_; rintro e w1 ⟨rfl, h1, hg1⟩; rw [HX.out]; have HG1 := Hid.out (p := Hid _) (And.intro h1 hg1); clear h1 hg1) | (go_at_call 112; refine (pkind_any x _).mono ?_; rintro e w' ⟨rfl, rfl⟩) | (go_at_call 111; refine (taken_any sb s (i + N) (by omega) _ x (by omega) _ HG1.out.1).mono ?_; rintro e w2 ⟨rfl, hb2⟩))
    exact ⟨rfl, HQ2.out _ _ (grown_then (grown_of_below HA.out.1 _) (grown_then HG1.out.2 (grown_of_below (hb2.alloc hb2.size _) _))) rfl⟩
  · have h12' : ¬ 12 < (x.size : Int) := by omega
    have HQ2 : Hid (∀ e w', w.grownBy w' (some sb) → e = .returned (.agg #[.int .i64 (kindW x.data.toList), .int .i64 0, .int .i64 i, .string x]) → Sc w' sb s (i + N) → TokQ w sb s i e w') := fun e w' hg he hc => by
      unfold TokQ
      rw [HQ.out, if_neg h12]
      refine ⟨hg, ?_, hc⟩
      rw [HX.out]
      exact he
    go_enter Tryz.func83, Tryz.ntmps83
    go_wp2_with (first | (go_at_call 108; refine (take_nam sb s hs i (by omega) (i + N) HN2 _ HA.out.2.1).mono ?_; rintro e w1 ⟨rfl, h1, hg1⟩; rw [HX.out]; have HG1 := Hid.out (p := Hid _) (And.intro h1 hg1); clear h1 hg1) | (go_at_call 112; refine (pkind_any x _).mono ?_; rintro e w' ⟨rfl, rfl⟩) | (go_at_call 111; refine (taken_any sb s (i + N) (by omega) _ x (by omega) _ HG1.out.1).mono ?_; rintro e w2 ⟨rfl, hb2⟩; have hx2 := (hb2.block _ (Nat.lt_of_lt_of_le HA.out.2.2.2.1 HG1.out.2.size)).trans ((HG1.out.2.block _ HA.out.2.2.2.1 HA.out.2.2.2.2).trans HA.out.2.2.1); have p0 := box_cell (i := 0) hx2 rfl; have p1 := box_cell (i := 1) hx2 rfl; have p2 := box_cell (i := 2) hx2 rfl; have p3 := box_cell (i := 3) hx2 rfl; have pf := fun j => box_free (i := j) hx2; have hl2 : w.heap.size < w2.heap.size := Nat.lt_of_lt_of_le (Nat.lt_of_lt_of_le HA.out.2.2.2.1 HG1.out.2.size) hb2.size; clear hx2))
    have hg2 : w.grownBy w2 (some sb) := grown_then (grown_of_below HA.out.1 _) (grown_then HG1.out.2 (grown_of_below hb2 _))
    have hne : w.heap.size ≠ sb := by have := h.lt; omega
    refine bodyPost_ret (v := .agg #[.int .i64 (kindW x.data.toList), .int .i64 0, .int .i64 i, .string x]) (by simp [results, Tryz.results83, go_sem, p0, p1, p2, p3, hl2]) rfl (HQ2.out _ _ ?_ rfl ?_)
    · exact grown_alloc (grown_high (grown_high (grown_high (grown_high hg2 (Nat.le_refl _) _) (Nat.le_refl _) _) (Nat.le_refl _) _) (Nat.le_refl _) _) _
    · exact (((((HG1.out.1.below hb2).far hne _).far hne _).far hne _).far hne _).more _
end

end Go.Proofs.YtclnjhffcfkihaeGreatDoor
