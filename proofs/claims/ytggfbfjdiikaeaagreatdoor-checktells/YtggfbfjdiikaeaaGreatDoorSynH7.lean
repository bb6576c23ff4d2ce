/-
  The document's Parse.
-/
import Derived.Test.YtggfbfjdiikaeaaGreatDoorLexA8
import Derived.Test.YtggfbfjdiikaeaaGreatDoorSynT
import Derived.Deep.LoopGhost
namespace Go.Proofs.YtggfbfjdiikaeaaGreatDoor
open Go.RowKit

attribute [local go_sem ↓] appS_eq

/-- What Parse tells of a text that has tokens, of what its trees are. -/
def prsQ (s : List UInt8) (Z : TRes (List Nd)) : List Row × (Int × Int) :=
  match Z with
  | .error f => ([], f)
  | .ok (ks, _) => if 600 < ndsSize ks + 1 then ([], (10, (s.length : Int))) else (flats 0 ks ++ [⟨1, 0, 0, [], idxs 0 ks⟩], (0, 0))

/-- .. behind the globals. -/
noncomputable def thrG (e : Int) : TRes (List Nd) → TRes (List Nd)
  | .error f => .error f
  | .ok (ks, r) => threadsT e ks r

set_option maxRecDepth 100000 in
set_option maxHeartbeats 3200000 in
theorem rparse_bad (s : ByteArray) (w : World) (hf : (scanL s.data.toList).2.1 ≠ 0) :
    Calls Tryz.prog 14 #[.string s] w fun e w' => ParseQ w.heap.size (parseT s.data.toList) e w' ∧ Below w.heap.size w w' := by
  obtain ⟨R, hR⟩ : ∃ R, scanL s.data.toList = R := ⟨_, rfl⟩
  have hq : parseT s.data.toList = ([], R.2) := by unfold parseT; rw [if_pos hf, hR]
  rw [hq]
  rw [hR] at hf
  have HR := Hid.out (p := Hid _) hR
  obtain ⟨l, c, a⟩ := R
  have hc : (c != 0) = true := by simpa using hf
  clear hq hR hf
  go_enter Tryz.func14, Tryz.ntmps14
  go_wp2_with fail
  refine Calls.mono (rscan_any s _) ?_
  rintro e w1 ⟨⟨v, rfl, hown⟩, hb1⟩
  rw [HR.out] at hown ⊢
  obtain ⟨la, lc, rfl⟩ := hown.form
  have hx := (hb1.block w.heap.size (by simp)).trans (heap_alloc_new w _)
  have p0 := box_cell (i := 0) hx rfl
  have p1 := box_cell (i := 1) hx rfl
  have p2 := box_cell (i := 2) hx rfl
  have pf := fun j => box_free (i := j) hx
  have hl1 : w.heap.size < w1.heap.size := Nat.lt_of_lt_of_le (by simp) hb1.size
  have HB1 : Hid (Below w.heap.size w w1) := ((Below.refl w.heap.size w).alloc (Nat.le_refl _) _).trans (hb1.mono (by simp))
  clear hx hown hb1
  simp only at p0 p1 p2 ⊢
  go_wp2_with fail
  go_region
  go_wp2_with fail
  refine bodyPost_ret (v := .tuple #[nilV, .agg #[.int .i64 c, .int .i64 0, .int .i64 a]]) (by simp [results, Tryz.results14, go_sem, p0, p1, p2, hl1]) rfl ⟨⟨nilV, rfl, nodes_nil _ _⟩, ?_⟩
  exact ((((HB1.out.setCell (Nat.le_refl _) _).setCell (Nat.le_refl _) _).setCell (Nat.le_refl _) _).alloc (by have := HB1.out.size; simp [World.setCell]; omega) _).drew

/-- What is at last in memory, besides the nodes. -/
theorem fin_frame {C : Cx9} {w w2 : World} {rows : List Row} {lv : Value} (h : FinS C w2 rows lv) (hl : C.lv0 = nilV) (hw : Below w.heap.size w C.w0 ∧ w.heap.size < C.P ∧ C.w0.heap[w.heap.size]? = some (.cells #[.int .i64 0, .int .i64 0, .int .i64 0] 25) ∧ w.heap.size < C.w0.heap.size) :
    w2.heap[w.heap.size]? = some (.cells #[.int .i64 0, .int .i64 0, .int .i64 0] 25) ∧ Below w.heap.size w w2 ∧ lv.ownBlock ≠ some w.heap.size := by
  obtain ⟨h1, h2, h3, h4⟩ := hw
  have hx := (h.low _ h4 (by omega) (by rw [hl]; simp [Value.ownBlock])).trans h3
  refine ⟨hx, h1.trans ⟨h.os, h.tape, h.output, h.size, fun k hk => h.low k (by omega) (by omega) (by rw [hl]; simp [Value.ownBlock])⟩, ?_⟩
  obtain ⟨ys, h5, _⟩ := h.kid
  exact own_apart h5 hx (by decide)
theorem fin_form {C : Cx9} {w2 : World} {rows : List Row} {lv : Value} (h : FinS C w2 rows lv) (N : Nat) (hN : rows.length = N) : ∃ a c, lv = .slice a N c := by
  obtain ⟨ys, h5, h6, _⟩ := h.kid
  obtain ⟨a, c, h7⟩ := owns_slice h5
  exact ⟨a, c, by rw [h7, ← hN, ← h6, List.length_map]⟩
/-- Nodes stay where they are if other blocks change. -/
theorem fin_nodes {C : Cx9} {w2 w3 : World} {rows : List Row} {lv : Value} (h : FinS C w2 rows lv) {B : Nat} (hB : B ≤ C.B) {f : Nat} (hx : w2.heap[f]? = some (.cells #[.int .i64 0, .int .i64 0, .int .i64 0] 25)) (hk : ∀ k, k < w2.heap.size → k ≠ f → k ≠ C.P → w3.heap[k]? = w2.heap[k]?) : NodesIn w3 B lv rows := by
  obtain ⟨ys, h5, h6, h7⟩ := h.kid
  refine ⟨ys, own_low (fam_keeps h5 fun g hg => ?_) hB, h6, fun y hy => fam_keeps (h7 y hy).2 fun g hg => ?_⟩
  · exact hk g (h5.lt g hg).2 (fun e => own_apart h5 hx (by decide) (by rw [hg, e])) (fun e => h.apart (by rw [hg, e]))
  · exact hk g ((h7 y hy).2.lt g hg).2 (fun e => own_apart (h7 y hy).2 hx (by decide) (by rw [hg, e])) (fun e => (h7 y hy).1 (by rw [hg, e]))
theorem thr_size {e : Int} {t : Tok} {r : List Tok} {x : Nd} {q : List Tok} (h : bindL (takeT e wThread (t :: r)) (blockT e 0) = .ok (x, q)) : takeT e wThread (t :: r) = .ok r ∧ blockT e 0 r = .ok (x, q) ∧ ndSize x + q.length ≤ r.length ∧ q.length < r.length := by
  cases ht : takeT e wThread (t :: r) with
  | error f => rw [ht] at h; cases h
  | ok r' =>
    have hr : r' = r := (take_ok ht).2
    subst hr
    rw [ht] at h
    simp only [bindL] at h
    obtain ⟨n, y, hy⟩ := (tl_block (e := e) 0 r').tot
    have h3 := tld_is (bl_up 0 r') hy
    exact ⟨rfl, h, (stmt_size n).2.1 _ _ _ _ (hy.trans (congrArg some (h3.symm.trans h))), (stmt_len n).2.1 _ _ _ _ (hy.trans (congrArg some (h3.symm.trans h)))⟩
theorem thr_few {C : Cx9} {t : Tok} {r : List Tok} {xs : List Nd} {x5 : TRes Nd} (hx : x5 = bindL (takeT C.E wThread (t :: r)) (blockT C.E 0)) (hs : ndsSize xs + (t :: r).length ≤ C.T.length) : ∀ l', resE x5 = .ok l' → (rowsE (flats 0 xs) x5).length + 1 + l'.length ≤ C.T.length := fun l' hl => by
  cases hu : x5 with
  | error f => rw [hu] at hl; cases hl
  | ok y =>
    obtain ⟨x, q⟩ := y
    rw [hu] at hl
    cases hl
    have h1 := (thr_size (hx.symm.trans hu)).2.2.1
    rw [rowsE, List.length_append, flats_len, flat_len]
    simp only [List.length_cons] at hs
    omega
theorem thr_apart {C : Cx9} {w : World} {d M : Nat} {bx : Option (Nat × Obj)} {ks : List Int} {kv : Value} {s : Except (Int × Int) (List Tok)} {rows : List Row} (h : GoS C w d M bx [(ks, kv)] s rows) {v : Int} : ∀ p, p ∈ [(ks, kv)] → p ∈ [([v], Value.slice (some ⟨w.heap.size, 0, none⟩) 1 1), (ks, kv)] ∧ ∀ g, (Value.slice (some ⟨w.heap.size, 0, none⟩) 1 1).ownBlock = some g → p.2.ownBlock ≠ some g := fun p hp => by
  refine ⟨List.mem_cons_of_mem _ hp, fun g hg e => ?_⟩
  have h1 := h.pslt p hp g e
  have h2 : w.heap.size = g := by simpa [Value.ownBlock] using hg
  omega
/-- One more thread. -/
theorem thr_next {C : Cx9} {M gk : Nat} {Z : TRes (List Nd)} {xs : List Nd} {t : Tok} {r : List Tok} {kv : Value} {w : World} {v v8 : Int} {x5 : TRes Nd} (hB : threadsT C.E xs (t :: r) = Z ∧ ndsSize xs + (t :: r).length ≤ C.T.length ∧ (t :: r).length + 2 ≤ gk) (hx : x5 = bindL (takeT C.E wThread (t :: r)) (blockT C.E 0)) (hg : GoS C w 0 M none [(idxs 0 xs ++ [v8], kv)] (resE x5) (rowsE (flats 0 xs) x5 ++ [⟨4, 0, t.pos, [], [v]⟩])) (hv : ∀ x q, x5 = .ok (x, q) → v = (((flats 0 xs).length + ndSize x : Nat) : Int) - 1) (hv8 : ∀ l, resE x5 = .ok l → v8 = ((rowsE (flats 0 xs) x5).length : Int)) : ThI C M Z (gk - 1) kv w := by
  obtain ⟨h1, h2, h3⟩ := hB
  rw [threadsT_is, if_neg (by simp)] at h1
  simp only [List.length_cons] at h2 h3
  cases hu : x5 with
  | error f =>
    rw [hu] at hg
    refine .err f _ (hg.err _ _) ?_ (by omega)
    rw [← h1]
    rw [hu] at hx
    cases ht : takeT C.E wThread (t :: r) with
    | error f2 => rw [ht] at hx; cases hx; rfl
    | ok r' =>
      rw [ht] at hx
      simp only [bindL] at hx ⊢
      rw [← hx]
      rfl
  | ok y =>
    obtain ⟨x, q⟩ := y
    obtain ⟨e1, e2, e3, e4⟩ := thr_size (hx.symm.trans hu)
    rw [hu] at hg
    have e5 := hv x q hu
    have e6 := hv8 q (by rw [hu]; rfl)
    rw [e1] at h1
    simp only [bindL] at h1
    rw [e2] at h1
    simp only [bindT, posOf] at h1
    refine .ok (xs ++ [.mk 4 0 t.pos [] [x]]) q ?_ h1 (by rw [sizes_snoc, size_one]; omega) (by omega)
    have h7 : flats 0 (xs ++ [.mk 4 0 t.pos [] [x]]) = rowsE (flats 0 xs) (.ok (x, q)) ++ [⟨4, 0, t.pos, [], [v]⟩] := by
      rw [flats_snoc, rowsE, e5]
      simp [flat, flats, idxs, flats_len]
    have h8 : idxs 0 (xs ++ [.mk 4 0 t.pos [] [x]]) = idxs 0 xs ++ [v8] := by
      rw [idxs_snoc, e6, hu, rowsE, List.length_append, flats_len, flat_len, size_one]
      congr 2
      omega
    rw [h7, h8]
    exact hg
/-- One more global. -/
theorem glob_next {C : Cx9} {M n gk : Nat} {G : TRes (List Nd)} {xs : List Nd} {q : List Tok} {kv : Value} {w : World} {v : Int} (hB : globalsT C.E n xs q = G ∧ q.length ≤ n ∧ ndsSize xs + q.length ≤ C.T.length ∧ q.length + 2 ≤ gk ∧ ToksOk q) (h : isTok wInt q = true ∨ isTok wLock q = true) (hg : GoS C w 0 M none [(idxs 0 xs ++ [v], kv)] (resE (globalT C.E q)) (rowsE (flats 0 xs) (globalT C.E q))) (hv : ∀ x r, globalT C.E q = .ok (x, r) → v = (((flats 0 xs).length + ndSize x : Nat) : Int) - 1) : GlI C M G (gk - 1) kv w := by
  obtain ⟨h1, h2, h3, h4, h5⟩ := hB
  have hq : 1 ≤ q.length := by
    rcases h with h | h
    · have := is_len h; omega
    · have := is_len h; omega
  match n, h1, h2 with
  | 0, _, h2 => omega
  | n + 1, h1, h2 =>
    rw [globalsT, if_pos h] at h1
    cases hu : globalT C.E q with
    | error f =>
      rw [hu] at hg h1
      exact .err f _ hg h1.symm (by omega)
    | ok y =>
      obtain ⟨x, r⟩ := y
      rw [hu] at hg h1
      have hz := global_size h5 hu
      have e1 := hv x r hu
      simp only at h1
      refine .ok (xs ++ [x]) r n ?_ h1 (by omega) (by rw [sizes_snoc]; omega) (by omega) hz.2.2
      have h7 : flats 0 (xs ++ [x]) = rowsE (flats 0 xs) (.ok (x, r)) := by
        rw [flats_snoc, rowsE, flats_len, Nat.zero_add]
      have h8 : idxs 0 (xs ++ [x]) = idxs 0 xs ++ [v] := by
        rw [idxs_snoc, e1, flats_len, Nat.zero_add]
      rw [h7, h8]
      exact hg

set_option maxRecDepth 100000 in
set_option maxHeartbeats 3200000 in
theorem rparse_good (s : ByteArray) (w : World) (hf : (scanL s.data.toList).2.1 = 0) :
    Calls Tryz.prog 14 #[.string s] w fun e w' => ParseQ w.heap.size (parseT s.data.toList) e w' ∧ Below w.heap.size w w' := by
  obtain ⟨R, hR⟩ : ∃ R, scanL s.data.toList = R := ⟨_, rfl⟩
  have hlen := scanL_len s.data.toList
  have htok := scanL_ok s.data.toList
  have hq : parseT s.data.toList = prsQ s.data.toList (progT (s.data.toList.length : Int) R.1) := by
    unfold parseT prsQ
    rw [if_neg (fun h => h hf), hR]
    rfl
  rw [hq]
  rw [hR] at hf hlen htok
  have HR := Hid.out (p := Hid _) hR
  obtain ⟨T, c, a⟩ := R
  simp only at hf hlen htok
  subst hf
  obtain ⟨E, hE⟩ : ∃ E, E = (s.size : Int) := ⟨_, rfl⟩
  have hE2 : (s.data.toList.length : Int) = E := by rw [hE]; simp
  simp only
  rw [hE2]
  obtain ⟨Z, hZ⟩ : ∃ Z, Z = progT E T := ⟨_, rfl⟩
  rw [← hZ]
  obtain ⟨G, hG⟩ : ∃ G, G = globalsT E T.length [] T := ⟨_, rfl⟩
  have HZ : Hid (Z = thrG E G) := by
    show Z = _
    rw [hZ, hG]
    unfold progT thrG
    cases globalsT E T.length [] T <;> rfl
  have HG := Hid.out (p := Hid _) hG
  have HES := Hid.out (p := Hid _) (And.intro hE hE2)
  have HTK := Hid.out (p := Hid _) htok
  obtain ⟨RR, hRR⟩ : ∃ RR, RR = prsQ s.data.toList Z := ⟨_, rfl⟩
  rw [← hRR]
  have HRR := Hid.out (p := Hid _) hRR
  clear hq hR hZ hG hE hE2 htok hRR
  go_enter Tryz.func14, Tryz.ntmps14
  go_wp2_with fail
  refine Calls.mono (rscan_any s _) ?_
  rintro e w1 ⟨⟨v, rfl, hown⟩, hb1⟩
  rw [HR.out] at hown ⊢
  obtain ⟨ta, tc, rfl⟩ := hown.form
  have hx := (hb1.block w.heap.size (by simp)).trans (heap_alloc_new w _)
  have hl1 : w.heap.size < w1.heap.size := Nat.lt_of_lt_of_le (by simp) hb1.size
  have HB1 : Hid (Below w.heap.size w w1) := ((Below.refl w.heap.size w).alloc (Nat.le_refl _) _).trans (hb1.mono (by simp))
  have HX := Hid.out (p := Hid _) hx
  have HOW : Hid (OwnT w1 (w.alloc (.cells #[.int .i64 0, .int .i64 0, .int .i64 0] 25)).heap.size (.slice ta T.length tc) T) := hown
  clear hx hown hb1
  simp only
  go_wp2_with fail
  -- the parser
  obtain ⟨S, hS⟩ : ∃ S, (w1.alloc (.cells #[.int .i64 0, .int .i64 0, .int .i64 a] 25)).alloc (.cells #[.slice ta T.length tc, .int .i64 (s.size : Int), .int .i64 0, .int .i64 0, nilV, .int .i64 0, .int .i64 0, .int .i64 0] 73) = S := ⟨_, rfl⟩
  obtain ⟨P, hP⟩ : ∃ P, w1.heap.size + 1 = P := ⟨_, rfl⟩
  have hbs : Below w1.heap.size w1 S := by rw [← hS]; exact ((Below.refl _ _).alloc (Nat.le_refl _) _).alloc (by simp) _
  have hSP : S.heap[P]? = some (.cells #[.slice ta T.length tc, .int .i64 E, .int .i64 0, .int .i64 0, nilV, .int .i64 0, .int .i64 0, .int .i64 0] 73) := by
    rw [← hS, ← hP, HES.out.1]
    have hh := heap_alloc_new (w1.alloc (.cells #[.int .i64 0, .int .i64 0, .int .i64 a] 25)) (.cells #[.slice ta T.length tc, .int .i64 (s.size : Int), .int .i64 0, .int .i64 0, nilV, .int .i64 0, .int .i64 0, .int .i64 0] 73)
    rw [show (w1.alloc (.cells #[.int .i64 0, .int .i64 0, .int .i64 a] 25)).heap.size = w1.heap.size + 1 by simp] at hh
    exact hh
  obtain ⟨C, hCP, hCT, hCE, hCw, hCl, hCB, hg0⟩ : ∃ C : Cx9, C.P = P ∧ C.T = T ∧ C.E = E ∧ C.w0 = S ∧ C.lv0 = nilV ∧ C.B = P ∧ ∀ N, GoS C S 0 N none [] (.ok T) [] := by
    refine ⟨⟨S, nilV, P, P, T, E, .slice ta T.length tc, fun _ => False⟩, rfl, rfl, rfl, rfl, rfl, rfl, fun N => go_start S P T E _ hSP (owns_below2 (own_low HOW.out (Nat.zero_le _)) hbs) (fun e => ?_) hlen N⟩
    have := (HOW.out.lt P e).2
    omega
  have HW : Hid (Below w.heap.size w S ∧ w.heap.size < P ∧ S.heap[w.heap.size]? = some (.cells #[.int .i64 0, .int .i64 0, .int .i64 0] 25) ∧ w.heap.size < S.heap.size) := by
    have h1 := hbs.size
    exact ⟨HB1.out.trans (hbs.mono (by omega)), by omega, (hbs.block _ hl1).trans HX.out, by omega⟩
  have hSs : S.heap.size = w1.heap.size + 2 := by rw [← hS]; simp
  rw [hS, hP]
  subst hCP hCT hCE hCw
  have HL : Hid (GlI C 4300 G (C.T.length + 2) nilV C.w0) := by
    refine .ok [] C.T C.T.length ?_ HG.out.symm (Nat.le_refl _) (by simp [ndsSize]) (Nat.le_refl _) HTK.out
    simpa [flats, idxs] using (hg0 4300).pend0
  have HPW : Hid (w.heap.size ≠ C.P ∧ C.P ≠ w.heap.size) := by have := HW.out; exact ⟨by omega, by omega⟩
  clear hS hP hSP hg0 hbs HOW HX HB1 hSs
  go_loopg [7] (C.T.length + 2) (fun g kv wr => (∃ ka kn kc, kv = .slice ka kn kc) ∧ Hid (GlI C 4300 G g kv wr))
  case atStart => exact ⟨⟨none, 0, 0, rfl⟩, HL⟩
  case round =>
    obtain ⟨⟨ka, kn, kc, rfl⟩, HL2⟩ := hrel
    clear HL
    rcases HL2.out with ⟨xs, q, n, hg, hG, hn, hs, hm, hq⟩ | ⟨f, ks, hg, hG, hm⟩
    · obtain ⟨i, d1, lv, a, hps, hil, _⟩ := hg.ps9
      have c5 : wr.cell? ⟨C.P, 5, none⟩ = some (.int .i64 0) := hps.c5
      have HG9 := Hid.out (p := Hid _) hg
      have HB : Hid (globalsT C.E n xs q = G ∧ q.length ≤ n ∧ ndsSize xs + q.length ≤ C.T.length ∧ q.length + 2 ≤ gk ∧ ToksOk q) := ⟨hG, hn, hs, hm, hq⟩
      have hil : (idxs 0 xs).length ≤ 100000 := by have := idxs_len xs 0; have := HB.out; omega
      clear hg hps hG hn hs hm hq
      by_cases ha : isTok wInt q = true
      · have HA := Hid.out (p := Hid _) ha
        have HBB : Hid (isTok wLock q = false) := is_alone ha (by decide)
        clear ha
        have HGL := Hid.out (p := Hid _) (rglobal_all (E := C.E) HB.out.2.2.2.2 (Or.inl HA.out))
        go_wp2_with (first
          | (go_at_call 26; refine Calls.mono (gis HG9.out _) ?_; rintro e w3 ⟨rfl, hg⟩; rw [show isE (⟨#[105, 110, 116]⟩ : ByteArray).data.toList (.ok q) = true from HA.out]; have HC3 := Hid.out (p := Hid _) hg; clear hg HG9)
          | (go_at_call 26; refine Calls.mono (gis HC3.out _) ?_; rintro e w4 ⟨rfl, hg⟩; rw [show isE (⟨#[108, 111, 99, 107]⟩ : ByteArray).data.toList (.ok q) = false from HBB.out]; have HC4 := Hid.out (p := Hid _) hg; clear hg HC3)
          | (go_at_call 27; refine Calls.mono (HGL.out C _ _ _ _ _ rfl HC4.out) ?_; rintro e w5 ⟨v5, rfl, hq⟩; have hq := (hq.more (show 4010 ≤ 4300 by decide)).st; obtain ⟨g6, cap6, w6, r1, hg6, -⟩ := hq.go.app (fun z hz => (by cases hz)) (fun p hp => (by simp at hp)) v5 hil _ rfl; have HC6 := Hid.out (p := Hid _) hg6; have HV5 := Hid.out (p := Hid _) hq.val; clear hq hg6 HC4))
        have HN : Hid (GlI C 4300 G (gk - 1) (.slice (some ⟨g6, 0, none⟩) ((idxs 0 xs).length + 1) cap6) w6) := glob_next HB.out (Or.inl HA.out) HC6.out HV5.out
        have hgk : 1 ≤ gk := by have := HB.out; omega
        clear HC6
        go_wp2_with fail
        go_roundg (gk - 1)
        case rel => exact ⟨⟨_, _, _, rfl⟩, HN⟩
        case measure => omega
      · by_cases hb : isTok wLock q = true
        · have HBB := Hid.out (p := Hid _) hb
          have HA : Hid (isTok wInt q = false) := (show isTok wInt q = false by simpa using ha)
          clear ha hb
          have HGL := Hid.out (p := Hid _) (rglobal_all (E := C.E) HB.out.2.2.2.2 (Or.inr HBB.out))
          go_wp2_with (first
            | (go_at_call 26; refine Calls.mono (gis HG9.out _) ?_; rintro e w3 ⟨rfl, hg⟩; rw [show isE (⟨#[105, 110, 116]⟩ : ByteArray).data.toList (.ok q) = false from HA.out]; have HC3 := Hid.out (p := Hid _) hg; clear hg HG9)
            | (go_at_call 26; refine Calls.mono (gis HC3.out _) ?_; rintro e w4 ⟨rfl, hg⟩; rw [show isE (⟨#[108, 111, 99, 107]⟩ : ByteArray).data.toList (.ok q) = true from HBB.out]; have HC4 := Hid.out (p := Hid _) hg; clear hg HC3)
            | (go_at_call 27; refine Calls.mono (HGL.out C _ _ _ _ _ rfl HC4.out) ?_; rintro e w5 ⟨v5, rfl, hq⟩; have hq := (hq.more (show 4010 ≤ 4300 by decide)).st; obtain ⟨g6, cap6, w6, r1, hg6, -⟩ := hq.go.app (fun z hz => (by cases hz)) (fun p hp => (by simp at hp)) v5 hil _ rfl; have HC6 := Hid.out (p := Hid _) hg6; have HV5 := Hid.out (p := Hid _) hq.val; clear hq hg6 HC4))
          have HN : Hid (GlI C 4300 G (gk - 1) (.slice (some ⟨g6, 0, none⟩) ((idxs 0 xs).length + 1) cap6) w6) := glob_next HB.out (Or.inr HBB.out) HC6.out HV5.out
          have hgk : 1 ≤ gk := by have := HB.out; omega
          clear HC6
          go_wp2_with fail
          go_roundg (gk - 1)
          case rel => exact ⟨⟨_, _, _, rfl⟩, HN⟩
          case measure => omega
        · have HA : Hid (isTok wInt q = false) := (show isTok wInt q = false by simpa using ha)
          have HBB : Hid (isTok wLock q = false) := (show isTok wLock q = false by simpa using hb)
          have HGO : Hid (Z = threadsT C.E xs q) := by
            show Z = _
            have h1 := HB.out
            have h2 : globalsT C.E n xs q = .ok (xs, q) := by
              match n with
              | 0 => rfl
              | n + 1 => rw [globalsT, if_neg (by simp [ha, hb])]
            rw [HZ.out, ← h1.1, h2]
            rfl
          clear ha hb
          go_wp2_with (first
            | (go_at_call 26; refine Calls.mono (gis HG9.out _) ?_; rintro e w3 ⟨rfl, hg⟩; rw [show isE (⟨#[105, 110, 116]⟩ : ByteArray).data.toList (.ok q) = false from HA.out]; have HC3 := Hid.out (p := Hid _) hg; clear hg HG9)
            | (go_at_call 26; refine Calls.mono (gis HC3.out _) ?_; rintro e w4 ⟨rfl, hg⟩; rw [show isE (⟨#[108, 111, 99, 107]⟩ : ByteArray).data.toList (.ok q) = false from HBB.out]; have HC4 := Hid.out (p := Hid _) hg; clear hg HC3))
          have HLT : Hid (ThI C 4303 Z (q.length + 2) (.slice ka kn kc) w4) := .ok xs q (HC4.out.any _) HGO.out.symm HB.out.2.2.1 (Nat.le_refl _)
          clear HC4 c5
          go_loopg [7] (q.length + 2) (fun g kv wv => (∃ ka kn kc, kv = .slice ka kn kc) ∧ Hid (ThI C 4303 Z g kv wv))
          case atStart => exact ⟨⟨_, _, _, rfl⟩, HLT⟩
          case round =>
          obtain ⟨⟨ka2, kn2, kc2, rfl⟩, HT2⟩ := hrel
          clear HLT
          rcases HT2.out with ⟨xs2, q2, hg, hZ2, hs, hm⟩ | ⟨f, ks, hg, hZ2, hm⟩
          · obtain ⟨i, d1, lv, a, hps, hil2, _⟩ := hg.ps9
            obtain ⟨hi, -⟩ := hil2 _ rfl
            have hle := hps.le
            have hPl := hps.lt
            have c0 := hps.c0
            have c2 := hps.c2
            have c5 : wr.cell? ⟨C.P, 5, none⟩ = some (.int .i64 0) := hps.c5
            obtain ⟨ta2, tc2, htv⟩ := hps.toks.form
            rw [htv] at c0
            have HG2 := Hid.out (p := Hid _) hg
            have HB2 : Hid (threadsT C.E xs2 q2 = Z ∧ ndsSize xs2 + q2.length ≤ C.T.length ∧ q2.length + 2 ≤ gk) := ⟨hZ2, hs, hm⟩
            clear hg hps hil2 hZ2 hs hm
            by_cases hq2 : q2 = []
            · have hge : ¬ (i : Int) < (C.T.length : Int) := by
                intro h
                have hlt : i < C.T.length := by omega
                have := getD_drop hlt
                rw [hi, hq2] at this
                cases this
              have hZx : Z = .ok (xs2, []) := by
                rw [← HB2.out.1, threadsT_is, if_pos hq2]
              clear hi hq2
              obtain ⟨N, hN⟩ : ∃ N, N = ndsSize xs2 + 1 := ⟨_, rfl⟩
              by_cases h600 : 600 < N
              · have hgt : (600 : Int) < (N : Int) := by omega
                have hRx : RR = ([], (10, (s.size : Int))) := by rw [HRR.out, hZx, prsQ, if_pos (by omega)]; simp
                go_wp2_with fail
                go_region
                go_wp2_with (go_at_call 31; refine Calls.mono (glast (HG2.out.below (Below.refl _ _).drew)) ?_; rintro e w2 ⟨v2, rfl, lv2, hF⟩; obtain ⟨i2, d2, hp2⟩ := hF.ps; obtain ⟨la2, lc2, rfl⟩ := fin_form hF N (by rw [List.length_append, flats_len]; exact hN.symm); have k4 := hp2.c4; have k5 := hp2.c5; have k6 := hp2.c6; have k7 := hp2.c7; have kf := hp2.free; have hPl2 := hp2.lt; have hfr2 := fin_frame hF hCl HW.out; obtain ⟨hx2, hb2, hfb⟩ := hfr2; have p0 := box_cell (i := 0) (u := .int .i64 0) hx2 rfl; have p1 := box_cell (i := 1) (u := .int .i64 0) hx2 rfl; have p2 := box_cell (i := 2) (u := .int .i64 0) hx2 rfl; have pf := (fun j => box_free (i := j) hx2); have hfl := lt_of_cell p0; have hn1 := HPW.out.1; have hn2 := HPW.out.2; have HB3 : Hid (Below w.heap.size w w2 ∧ w2.heap[w.heap.size]? = some (.cells #[.int .i64 0, .int .i64 0, .int .i64 0] 25)) := ⟨hb2, hx2⟩; have HFF := Hid.out (p := Hid _) hF; clear hp2 hx2 hb2 hF)
                go_region
                go_wp2_with fail
                rw [hRx]
                refine bodyPost_ret (v := .tuple #[nilV, .agg #[.int .i64 10, .int .i64 0, .int .i64 (s.size : Int)]]) (by simp [results, Tryz.results14, go_sem, p0, p1, p2]) rfl ⟨⟨nilV, rfl, nodes_nil _ _⟩, ?_⟩
                have hwP : w.heap.size ≤ C.P := Nat.le_of_lt HW.out.2.1
                exact ((((((HB3.out.1.setCell (p := ⟨C.P, 5, none⟩) hwP _).setCell (p := ⟨C.P, 6, none⟩) hwP _).setCell (p := ⟨C.P, 7, none⟩) hwP _).setCell (Nat.le_refl _) _).setCell (Nat.le_refl _) _).setCell (Nat.le_refl _) _).drew
              · have hgt : ¬ (600 : Int) < (N : Int) := by omega
                have hRx : RR = (flats 0 xs2 ++ [⟨1, 0, 0, [], idxs 0 xs2⟩], (0, 0)) := by rw [HRR.out, hZx, prsQ, if_neg (by omega)]
                go_wp2_with fail
                go_region
                go_wp2_with (go_at_call 31; refine Calls.mono (glast (HG2.out.below (Below.refl _ _).drew)) ?_; rintro e w2 ⟨v2, rfl, lv2, hF⟩; obtain ⟨i2, d2, hp2⟩ := hF.ps; obtain ⟨la2, lc2, rfl⟩ := fin_form hF N (by rw [List.length_append, flats_len]; exact hN.symm); have k4 := hp2.c4; have k5 := hp2.c5; have k6 := hp2.c6; have k7 := hp2.c7; have kf := hp2.free; have hPl2 := hp2.lt; have hfr2 := fin_frame hF hCl HW.out; obtain ⟨hx2, hb2, hfb⟩ := hfr2; have p0 := box_cell (i := 0) (u := .int .i64 0) hx2 rfl; have p1 := box_cell (i := 1) (u := .int .i64 0) hx2 rfl; have p2 := box_cell (i := 2) (u := .int .i64 0) hx2 rfl; have pf := (fun j => box_free (i := j) hx2); have hfl := lt_of_cell p0; have hn1 := HPW.out.1; have hn2 := HPW.out.2; have HB3 : Hid (Below w.heap.size w w2 ∧ w2.heap[w.heap.size]? = some (.cells #[.int .i64 0, .int .i64 0, .int .i64 0] 25)) := ⟨hb2, hx2⟩; have HFF := Hid.out (p := Hid _) hF; clear hp2 hx2 hb2 hF)
                rw [hRx]
                refine bodyPost_ret (v := .tuple #[.slice la2 N lc2, .agg #[.int .i64 0, .int .i64 0, .int .i64 0]]) (by simp [results, Tryz.results14, go_sem, p0, p1, p2, hN]) rfl ⟨⟨_, rfl, ?_⟩, ?_⟩
                · refine fin_nodes HFF.out (by rw [hCB]; exact Nat.le_of_lt HW.out.2.1) HB3.out.2 fun k _ h1 _ => ?_
                  exact (Below.heap_setCell _ _ _ _ h1).trans ((Below.heap_setCell _ _ _ _ h1).trans (Below.heap_setCell _ _ _ _ h1))
                · exact ((HB3.out.1.setCell (Nat.le_refl _) _).setCell (Nat.le_refl _) _).setCell (Nat.le_refl _) _
            · obtain ⟨t2, r2, rfl⟩ : ∃ t2 r2, q2 = t2 :: r2 := by
                cases q2 with
                | nil => exact absurd rfl hq2
                | cons a b => exact ⟨a, b, rfl⟩
              have hlt' : (i : Int) < (C.T.length : Int) := by
                have : i < C.T.length := by
                  rcases Nat.lt_or_ge i C.T.length with h1 | h1
                  · exact h1
                  · rw [List.drop_eq_nil_of_le h1] at hi; cases hi
                omega
              obtain ⟨x5, hx5⟩ : ∃ x5, x5 = bindL (takeT C.E wThread (t2 :: r2)) (blockT C.E 0) := ⟨_, rfl⟩
              have HX5 := Hid.out (p := Hid _) hx5
              have HBL : Hid (∀ w3 bx ps rs, GoS C w3 0 4300 bx ps (takeT C.E wThread (t2 :: r2)) rs → Calls Tryz.prog 30 #[.pointer (some ⟨C.P, 0, none⟩)] w3 fun e w' => ∃ v, e = .returned (.int .i64 v) ∧ TrQ C w' 0 4301 bx ps rs x5 v) := fun w3 bx ps rs hg3 => by
                rw [hx5]
                exact gtree err_block9 hg3 (fun q _ => (rblock_all q 0 (by decide)).more (by decide)) (by decide)
              have HFW : Hid (∀ l', resE x5 = .ok l' → (rowsE (flats 0 xs2) x5).length + 1 + l'.length ≤ C.T.length) := thr_few hx5 HB2.out.2.1
              have hil3 : (idxs 0 xs2).length ≤ 100000 := by have := idxs_len xs2 0; have := HB2.out; have hTT := HG2.out.few; omega
              clear hi hq2 hx5
              go_wp2_with fail
              go_region
              go_wp2_with (first
                | (go_at_call 28; refine Calls.mono (gat ((HG2.out.any 4300).below (Below.refl _ _).drew)) ?_; rintro e w5 ⟨rfl, hg⟩; rw [show posE C.E (.ok (t2 :: r2)) = t2.pos from rfl]; have HC5 := Hid.out (p := Hid _) hg; clear hg HG2)
                | (go_at_call 29; refine Calls.mono (gtake HC5.out (by decide) _) ?_; rintro e w6 ⟨rfl, hg⟩; replace hg : GoS C w6 0 4300 none _ (takeT C.E wThread (t2 :: r2)) (flats 0 xs2) := hg; have HC6 := Hid.out (p := Hid _) hg; clear hg HC5)
                | (go_at_call 30; refine Calls.mono (HBL.out _ _ _ _ HC6.out) ?_; rintro e w7 ⟨v7, rfl, hq⟩; have hq := hq.st; have HC7 := Hid.out (p := Hid _) hq; clear hq HC6)
                | (go_at_call 31; refine Calls.mono (gnode (HC7.out.go.kids [v7] 1 rfl (Nat.le_refl _) #[.int .i64 v7] rfl (by decide) w7.heap.size rfl) (by decide) 4 0 t2.pos [] [v7] _ _ _ (fun _ _ => Or.inl (List.mem_cons_self ..)) HFW.out [(idxs 0 xs2, .slice ka2 kn2 kc2)] (thr_apart HC7.out.go)) ?_; rintro e w8 ⟨v8, rfl, hv8, hg⟩; obtain ⟨g9, cap9, w9, r1, hg9, -⟩ := hg.app (fun z hz => (by cases hz)) (fun p hp => (by simp at hp)) v8 hil3 _ rfl; have HC9 := Hid.out (p := Hid _) hg9; have HV8 := Hid.out (p := Hid _) hv8; have HV7 := Hid.out (p := Hid _) HC7.out.val; clear hg hg9 hv8 HC7))
              have HN : Hid (ThI C 4303 Z (gk - 1) (.slice (some ⟨g9, 0, none⟩) ((idxs 0 xs2).length + 1) cap9) w9) := thr_next HB2.out HX5.out (HC9.out.more (by decide)) HV7.out HV8.out
              have hgk : 1 ≤ gk := by have := HB2.out; omega
              clear HC9
              go_wp2_with fail
              go_roundg (gk - 1)
              case rel => exact ⟨⟨_, _, _, rfl⟩, HN⟩
              case measure => omega
          · have HG9 := Hid.out (p := Hid _) hg
            have hRx : RR = ([], f) := by rw [HRR.out, hZ2]; rfl
            clear hg hZ2 hm
            obtain ⟨hf0, i9, d9, lv9, hp9⟩ := HG9.out.errp
            have HN9 : Hid (∀ w2 M2 rs, GoS C w2 0 M2 none [] (.error f) rs → (∃ i d1 lv, Ps w2 C.P C.T C.E i d1 C.tv lv f.1 f.2) ∧ w2.heap[w.heap.size]? = some (.cells #[.int .i64 0, .int .i64 0, .int .i64 0] 25) ∧ Below w.heap.size w w2) := fun w2 M2 rs hg => by
              have hw := HW.out
              refine ⟨hg.errp.2, (hg.keeps hCl hw.2.2.2 (by omega)).trans hw.2.2.1, hw.1.trans (hg.frame hCl (by omega) (by omega))⟩
            have hfne : (f.1 != 0) = true := by simpa using hf0
            have hfne2 : (f.1 == 0) = false := by simpa using hf0
            have c5 := hp9.c5
            clear hp9 hf0
            go_wp2_with fail
            go_region
            go_wp2_with (go_at_call 31; refine Calls.mono (gnode (HG9.out.below (Below.refl _ _).drew) (by decide) 1 0 0 [] ks ka2 kn2 kc2 (fun l hl => by cases hl) (fun l hl => by cases hl)) ?_; rintro e w2 ⟨v2, rfl, -, hg2⟩; obtain ⟨⟨i2, d2, lv2, hp2⟩, hx2, hb2⟩ := HN9.out _ _ _ hg2; have k5 := hp2.c5; have k6 := hp2.c6; have k7 := hp2.c7; have hPl := hp2.lt; have p0 := box_cell (i := 0) (u := .int .i64 0) hx2 rfl; have p1 := box_cell (i := 1) (u := .int .i64 0) hx2 rfl; have p2 := box_cell (i := 2) (u := .int .i64 0) hx2 rfl; have pf := (fun j => box_free (i := j) hx2); have hfl := lt_of_cell p0; have hn1 := HPW.out.1; have hn2 := HPW.out.2; have HB2 := Hid.out (p := Hid _) hb2; clear hp2 hx2 hb2 hg2)
            go_region
            go_wp2_with fail
            rw [hRx]
            refine bodyPost_ret (v := .tuple #[nilV, .agg #[.int .i64 f.1, .int .i64 0, .int .i64 f.2]]) (by simp [results, Tryz.results14, go_sem, p0, p1, p2]) rfl ⟨⟨nilV, rfl, nodes_nil _ _⟩, ?_⟩
            exact (((HB2.out.setCell (Nat.le_refl _) _).setCell (Nat.le_refl _) _).setCell (Nat.le_refl _) _).drew
    · have HG9 := Hid.out (p := Hid _) hg
      have hRx : RR = ([], f) := by rw [HRR.out, HZ.out, hG]; rfl
      clear hg hG hm
      obtain ⟨hf0, i9, d9, lv9, hp9⟩ := HG9.out.errp
      have HN9 : Hid (∀ w2 M2 rs, GoS C w2 0 M2 none [] (.error f) rs → (∃ i d1 lv, Ps w2 C.P C.T C.E i d1 C.tv lv f.1 f.2) ∧ w2.heap[w.heap.size]? = some (.cells #[.int .i64 0, .int .i64 0, .int .i64 0] 25) ∧ Below w.heap.size w w2) := fun w2 M2 rs hg => by
        have hw := HW.out
        refine ⟨hg.errp.2, (hg.keeps hCl hw.2.2.2 (by omega)).trans hw.2.2.1, hw.1.trans (hg.frame hCl (by omega) (by omega))⟩
      have hfne : (f.1 != 0) = true := by simpa using hf0
      have hfne2 : (f.1 == 0) = false := by simpa using hf0
      have c5 := hp9.c5
      clear hp9 hf0
      go_wp2_with fail
      go_loopg [7] 1 (fun _ kv wv => kv = .slice ka kn kc ∧ wv = wr)
      case atStart => exact ⟨rfl, rfl⟩
      case round =>
      obtain ⟨rfl, rfl⟩ := hrel
      go_wp2_with fail
      go_region
      go_wp2_with (go_at_call 31; refine Calls.mono (gnode (HG9.out.below (Below.refl _ _).drew) (by decide) 1 0 0 [] ks ka kn kc (fun l hl => by cases hl) (fun l hl => by cases hl)) ?_; rintro e w2 ⟨v2, rfl, -, hg2⟩; obtain ⟨⟨i2, d2, lv2, hp2⟩, hx2, hb2⟩ := HN9.out _ _ _ hg2; have k5 := hp2.c5; have k6 := hp2.c6; have k7 := hp2.c7; have hPl := hp2.lt; have p0 := box_cell (i := 0) (u := .int .i64 0) hx2 rfl; have p1 := box_cell (i := 1) (u := .int .i64 0) hx2 rfl; have p2 := box_cell (i := 2) (u := .int .i64 0) hx2 rfl; have pf := (fun j => box_free (i := j) hx2); have hfl := lt_of_cell p0; have hn1 := HPW.out.1; have hn2 := HPW.out.2; have HB2 := Hid.out (p := Hid _) hb2; clear hp2 hx2 hb2 hg2)
      go_region
      go_wp2_with fail
      rw [hRx]
      refine bodyPost_ret (v := .tuple #[nilV, .agg #[.int .i64 f.1, .int .i64 0, .int .i64 f.2]]) (by simp [results, Tryz.results14, go_sem, p0, p1, p2]) rfl ⟨⟨nilV, rfl, nodes_nil _ _⟩, ?_⟩
      exact (((HB2.out.setCell (Nat.le_refl _) _).setCell (Nat.le_refl _) _).setCell (Nat.le_refl _) _).drew

/-- The document's Parse, of every text. -/
theorem rparse_any (s : ByteArray) (w : World) :
    Calls Tryz.prog 14 #[.string s] w fun e w' => ParseQ w.heap.size (parseT s.data.toList) e w' ∧ Below w.heap.size w w' := by
  by_cases h : (scanL s.data.toList).2.1 = 0
  · exact rparse_good s w h
  · exact rparse_bad s w h

end Go.Proofs.YtggfbfjdiikaeaaGreatDoor
