/-
  The program's parser: threads, the whole program.
-/
import Derived.Test.YtggfbfjdiikaeaaGreatDoorSqU
import Derived.Test.YtggfbfjdiikaeaaGreatDoorSynH7
namespace Go.Proofs.YtggfbfjdiikaeaaGreatDoor
open Go.RowKit

attribute [local go_sem ↓] appS_eq

section
variable {C : Cx9} {w w' : World} {d : Nat} {bx : Option (Nat × Obj)} {ps : List (List Int × Value)} {l : List Tok} {rows : List Row}
/-- Does one of two stand next? -/
theorem qis2g (h : GoP C w d bx ps l rows) (g : Nat) (hgs : g = w.heap.size) (y z : ByteArray) (hy : isLit y.data.toList) (hz : isLit z.data.toList) :
    Calls Tryz.prog 81 #[.pointer (some ⟨C.P, 0, none⟩), .slice (some ⟨g, 0, none⟩) 2 2] (w.alloc (.cells #[.string y, .string z] 9)) fun e w' => e = .returned (.bool (isTok y.data.toList l || isTok z.data.toList l)) ∧ Below w.heap.size w w' := by
  subst hgs
  have hA := (Below.refl w.heap.size w).alloc (Nat.le_refl _) (.cells #[.string y, .string z] 9)
  refine (qis (h.below hA) w.heap.size 2 [y, z] rfl (by decide) (heap_alloc_new _ _) (fun a ha => by simp at ha; rcases ha with rfl | rfl <;> assumption)).mono ?_
  rintro e w' ⟨rfl, hb⟩
  exact ⟨by simp [litB], hA.trans (hb.mono hA.size)⟩
end
section
variable {E : Int} {d : Nat}
set_option maxRecDepth 100000 in
set_option maxHeartbeats 1600000 in
theorem qthread {t : Tok} {r : List Tok} (hpl : ¬ opB t.text ∧ ¬ shB t.text) : Cpr 83 [] E d (t :: r) (bindT (blockT E d r) fun b q => .ok (.mk 4 0 t.pos [] [b], q)) := by
  refine cpr_of fun C w rows hE hg => ?_
  subst hE
  have hfw := hg.fewR
  have hst : stepD t.text d = d := by unfold stepD; rw [if_neg hpl.1, if_neg hpl.2]
  have HT := Hid.out (p := Hid _) (qtake_any hg (fun h => absurd h hpl.1) (fun h => absurd h hpl.2))
  have HST := Hid.out (p := Hid _) hst
  have HX := Hid.out (p := Hid _) (qblock_all (E := C.E) r d)
  obtain ⟨R, hR⟩ : ∃ R : TRes Nd, R = bindT (blockT C.E d r) fun b q => .ok (.mk 4 0 t.pos [] [b], q) := ⟨_, rfl⟩
  rw [← hR]
  clear hg hpl hst
  go_enter Tryz.func83, Tryz.ntmps83
  go_wp2_with (go_at_call 111; refine Calls.mono HT.out ?_; rintro e w1 ⟨rfl, hg, -⟩; rw [HST.out] at hg; have HG1 := Hid.out (p := Hid _) hg; clear hg)
  have hg2 := HG1.out.box (.cells #[.int .i64 t.kind, .int .i64 t.num, .int .i64 t.pos, .string ⟨⟨t.text⟩⟩] 98)
  refine Calls.mono (HX.out C _ _ _ _ rfl hg2) ?_
  intro e w3 hq
  cases hx : blockT C.E d r with
  | error f =>
    rw [hx] at hq hR
    obtain ⟨rfl, hf⟩ := hq
    subst hR
    exact ⟨rfl, rfl, hf⟩
  | ok y =>
    obtain ⟨x, q⟩ := y
    have hsz := block_len hx
    rw [hx] at hq hR
    obtain ⟨rfl, hg3⟩ := hq
    have HR := Hid.out (p := Hid _) hR
    obtain ⟨hb4, hbP, hbl⟩ := hg3.bxc
    obtain ⟨b0, b1, b2, b3, bf⟩ := box4 hb4
    have HG4 := Hid.out (p := Hid _) hg3
    have hfw1 := hfw.1
    simp only [List.length_cons] at hfw1
    clear hg3 hg2 hx hR hb4
    go_wp2_with fail
    refine Calls.mono (qadd (HG4.out.kids [((rows.length + ndSize x : Nat) : Int) - 1] 1 rfl (Nat.le_refl _) _ rfl (by decide) w3.heap.size rfl) 4 0 t.pos [] [((rows.length + ndSize x : Nat) : Int) - 1] _ _ _ (Or.inl (List.mem_cons_self ..)) (by rw [List.length_append, flat_len]; omega)) ?_
    rintro e w5 ⟨rfl, hg5⟩
    have HG5 := Hid.out (p := Hid _) hg5.drop
    clear hg5
    go_wp2_with fail
    go_ret
    rw [HR.out]
    refine ⟨?_, ?_⟩
    · exact ret_int (by rw [flat_len, size_one]; omega)
    · have h7 : rows ++ flat rows.length (.mk 4 0 t.pos [] [x]) = (rows ++ flat rows.length x) ++ [⟨4, 0, t.pos, [], [((rows.length + ndSize x : Nat) : Int) - 1]⟩] := by
        simp [flat, flats, idxs]
      rw [h7]
      exact HG5.out
end

/-- A round of globals. -/
structure GpI (C : Cx9) (G : TRes (List Nd)) (g : Nat) (ka : Option Addr) (kn kc : Nat) (xs : List Nd) (q : List Tok) (n : Nat) (wr : World) : Prop where
  go : GoP C wr 0 none [(idxs 0 xs, .slice ka kn kc)] q (flats 0 xs)
  is : globalsT C.E n xs q = G
  num : q.length ≤ n
  sz : ndsSize xs + q.length ≤ C.T.length
  ms : q.length + 1 ≤ g
/-- A round of threads. -/
structure TpI (C : Cx9) (Z : TRes (List Nd)) (g : Nat) (ka : Option Addr) (kn kc : Nat) (xs : List Nd) (q : List Tok) (wr : World) : Prop where
  go : GoP C wr 0 none [(idxs 0 xs, .slice ka kn kc)] q (flats 0 xs)
  is : threadsT C.E xs q = Z
  sz : ndsSize xs + q.length ≤ C.T.length
  ms : q.length + 1 ≤ g
/-- All nodes are there. -/
structure FinP (C : Cx9) (w : World) (rows : List Row) (lv : Value) : Prop where
  q : ∃ i d, Qs w C.P C.T C.E i d C.tv lv
  lst : ∃ ys : List (Row × Value), OwnN w C.B lv ys ∧ ys.map Prod.fst = rows ∧ ∀ y, y ∈ ys → y.2.ownBlock ≠ some C.P ∧ w.ownsRow 0 3 1 y.2 y.1.kids.length (y.1.kids.map fun k => .int .i64 k)
  apart : lv.ownBlock ≠ some C.P
  fr : FrP C w
/-- What the whole program leaves. -/
def PgQ (C : Cx9) (w : World) (Z : TRes (List Nd)) (e : Ending) : Prop :=
  match Z with
  | .error f => e = .panicked (badF f) ∧ FrP C w
  | .ok (ks, _) => if 600 < ndsSize ks + 1 then e = .panicked (badF (10, C.E)) ∧ FrP C w else e = .returned (.tuple #[]) ∧ ∃ lv, FinP C w (flats 0 ks ++ [⟨1, 0, 0, [], idxs 0 ks⟩]) lv
/-- The last node. -/
theorem qlast {C : Cx9} {w : World} {ka : Option Addr} {kn kc : Nat} {ks : List Int} {rows : List Row} (h : GoP C w 0 none [(ks, .slice ka kn kc)] [] rows) :
    Calls Tryz.prog 86 #[.pointer (some ⟨C.P, 0, none⟩), .agg #[.int .i64 1, .int .i64 0, .int .i64 0, .string ⟨#[]⟩, .slice ka kn kc]] w fun e w' => e = .returned (.int .i64 (rows.length : Int)) ∧ ∃ lv, FinP C w' (rows ++ [⟨1, 0, 0, [], ks⟩]) lv ∧ ∃ i : Nat, C.T.drop i = [] ∧ Qs w' C.P C.T C.E i 0 C.tv lv := by
  obtain ⟨lv, i, ys, h⟩ := h
  have hl : ys.length = rows.length := by rw [← h.map, List.length_map]
  have hkd := (h.ps _ (List.mem_cons_self ..)).kd
  refine (qadd_raw h 1 0 0 [] ks ka kn kc).mono ?_
  rintro e w' ⟨rfl, lv', hq, hl', hfr⟩
  refine ⟨by rw [hl], lv', ⟨⟨_, _, hq⟩, ⟨_, hl'.own, by rw [List.map_append, h.map]; rfl, fun y hy => ?_⟩, hl'.apart, ⟨lv', h.fr.trans hfr⟩⟩, i, h.is, hq⟩
  rcases List.mem_append.1 hy with hy | hy
  · have := (h.kid y hy).fr hfr
    exact ⟨this.apart, this.own⟩
  · obtain rfl : y = (⟨1, 0, 0, [], ks⟩, .slice ka kn kc) := by simpa using hy
    have := hkd.fr hfr
    exact ⟨this.apart, this.own⟩

section
variable {w : World} {P : Nat} {T : List Tok} {E : Int} {i d : Nat} {tv lv : Value}
set_option maxRecDepth 100000 in
set_option maxHeartbeats 1600000 in
theorem qnextQ (h : Qs w P T E i d tv lv) :
    Calls Tryz.prog 84 #[.pointer (some ⟨P, 0, none⟩)] w fun e w' => e = .returned (.agg #[.int .i64 (tokE E (T.drop i)).kind, .int .i64 (tokE E (T.drop i)).num, .int .i64 (tokE E (T.drop i)).pos, .string ⟨⟨(tokE E (T.drop i)).text⟩⟩]) ∧ Below w.heap.size w w' := by
  have hle := h.le
  have hfew := h.few
  have hP := h.lt
  have c0 := h.c0
  have c1 := h.c1
  obtain ⟨g, tc, htv, hgP, hgl, t0, t1, t2, t3⟩ := h.tok
  rw [htv] at c0
  obtain ⟨⟨k, n, p, t⟩, ht⟩ : ∃ x, tokE E (T.drop i) = x := ⟨_, rfl⟩
  rw [ht] at t0 t1 t2 t3 ⊢
  simp only at t0 t1 t2 t3 ⊢
  have hlt : (i : Int) < ((T.length + 1 : Nat) : Int) := by omega
  clear h ht htv
  go_enter Tryz.func84, Tryz.ntmps84
  go_wp2_with fail
  go_region
  go_wp2_with fail
  refine bodyPost_ret (v := .agg #[.int .i64 k, .int .i64 n, .int .i64 p, .string ⟨⟨t⟩⟩]) (by simp [results, Tryz.results84, go_sem]) rfl ⟨rfl, ?_⟩
  exact ((Below.refl _ _).alloc (Nat.le_refl _) _).drew
theorem Qs.below (h : Qs w P T E i d tv lv) {w' : World} (hb : Below w.heap.size w w') : Qs w' P T E i d tv lv :=
  h.next (Only.of hb) h.le h.dle ((hb.block P h.lt).trans h.box)
set_option maxRecDepth 100000 in
set_option maxHeartbeats 1600000 in
theorem qfaultQ (h : Qs w P T E i d tv lv) (code : Int) :
    Calls Tryz.prog 85 #[.pointer (some ⟨P, 0, none⟩), .int .i64 code] w fun e w' => e = .returned (.agg #[.int .i64 code, .int .i64 0, .int .i64 (posOf E (T.drop i))]) ∧ Below w.heap.size w w' := by
  rw [← tokE_pos]
  have hA := (Below.refl w.heap.size w).alloc (Nat.le_refl _) (.cells #[.int .i64 0, .int .i64 0, .int .i64 0] 25)
  have HN := Hid.out (p := Hid _) (qnextQ (h.below hA))
  have HA := Hid.out (p := Hid _) hA
  clear h hA
  have hfd := fld2
  go_enter Tryz.func85, Tryz.ntmps85
  go_wp2_with (go_at_call 84; refine Calls.mono HN.out ?_; rintro e w1 ⟨rfl, hb⟩; have hx := (hb.block w.heap.size (by simp)).trans (heap_alloc_new w _); have p0 := box_cell (i := 0) (u := .int .i64 0) hx rfl; have p1 := box_cell (i := 1) (u := .int .i64 0) hx rfl; have p2 := box_cell (i := 2) (u := .int .i64 0) hx rfl; have pf := (fun j => box_free (i := j) hx); have HB := Hid.out (p := Hid _) (HA.out.trans (hb.mono HA.out.size)); clear hx hb)
  refine bodyPost_ret (v := .agg #[.int .i64 code, .int .i64 0, .int .i64 (tokE E (T.drop i)).pos]) (by simp [results, Tryz.results85, go_sem, p0, p1, p2]) rfl ⟨rfl, ?_⟩
  exact ((HB.out.setCell (Nat.le_refl _) _).setCell (Nat.le_refl _) _).setCell (Nat.le_refl _) _
end
theorem zero_kind {t : Tok} (h : TokOk t) : (t.kind != 0) = true := by
  rcases h with ⟨k, _⟩ | ⟨k, _⟩ | ⟨k, _⟩ | ⟨k, _⟩ <;> (rw [k]; decide)
set_option maxRecDepth 100000 in
set_option maxHeartbeats 3200000 in
theorem qprogram {C : Cx9} {w : World} (hg : GoP C w 0 none [] C.T []) (Z : TRes (List Nd)) (hZ : progT C.E C.T = Z) :
    Calls Tryz.prog 63 #[.pointer (some ⟨C.P, 0, none⟩)] w fun e w' => PgQ C w' Z e := by
  have hfw := hg.fewR
  obtain ⟨G, hG⟩ : ∃ G, globalsT C.E C.T.length [] C.T = G := ⟨_, rfl⟩
  have HZ : Hid (Z = thrG C.E G) := by
    show _ = _
    rw [← hZ]; unfold progT; rw [hG]
    cases G <;> rfl
  have HI : Hid (GpI C G (C.T.length + 1) none 0 0 [] C.T C.T.length w) := ⟨by simpa [flats, idxs] using hg.pend0, hG, Nat.le_refl _, by simp [ndsSize], by omega⟩
  clear hg hG hZ
  go_enter Tryz.func63, Tryz.ntmps63
  go_wp2_with fail
  go_loopg [2] (C.T.length + 1) (fun gh kv wr => ∃ ka kn kc xs q n, kv = .slice ka kn kc ∧ Hid (GpI C G gh ka kn kc xs q n wr))
  case atStart => exact ⟨none, 0, 0, [], C.T, C.T.length, rfl, HI⟩
  case round =>
    obtain ⟨ka, kn, kc, xs, q, n, rfl, HJ⟩ := hrel
    clear HI
    have hT := hfw.2.1
    go_wp2_with fail
    refine Calls.mono (qis2g HJ.out.go wr.heap.size rfl ⟨#[105, 110, 116]⟩ ⟨#[108, 111, 99, 107]⟩ (lit_word (by decide)) (lit_word (by decide))) ?_
    rintro e w1 ⟨rfl, hb1⟩
    have hg1 := HJ.out.go.below hb1
    have HG1 := Hid.out (p := Hid _) hg1
    have hqk := hg1.fewR.2.2.2
    clear hb1
    by_cases hi : isTok wInt q = true ∨ isTok wLock q = true
    · have hb : (isTok wInt q || isTok wLock q) = true := by simpa using hi
      rw [show (isTok (⟨#[105, 110, 116]⟩ : ByteArray).data.toList q || isTok (⟨#[108, 111, 99, 107]⟩ : ByteArray).data.toList q) = true from hb]
      have HX := Hid.out (p := Hid _) (qglobal (E := C.E) (d := 0) hi C w1 none _ _ rfl hg1)
      have his := HJ.out.is
      obtain ⟨m, rfl⟩ : ∃ m, n = m + 1 := by
        have h1 := HJ.out.num
        cases n with
        | zero =>
          have : q = [] := List.eq_nil_of_length_eq_zero (by omega)
          subst this
          rcases hi with h | h <;> cases h
        | succ m => exact ⟨m, rfl⟩
      rw [globalsT, if_pos hi] at his
      clear hb hg1
      go_wp2_with fail
      refine Calls.mono HX.out ?_
      intro e w2 hq
      cases hx : globalT C.E q with
      | error f =>
        rw [hx] at hq his
        obtain ⟨rfl, hf⟩ := hq
        have hZ := HZ.out
        rw [← his] at hZ
        subst hZ
        exact ⟨rfl, rfl, hf⟩
      | ok y =>
        obtain ⟨x, r⟩ := y
        obtain ⟨hs1, hs2, -⟩ := global_size hqk hx
        rw [hx] at hq his
        obtain ⟨rfl, hg2⟩ := hq
        simp only at his
        have hms := HJ.out.ms
        have hszz := HJ.out.sz
        have hnum := HJ.out.num
        obtain ⟨v5, hv5⟩ : ∃ v, v = (((flats 0 xs).length + ndSize x : Nat) : Int) - 1 := ⟨_, rfl⟩
        rw [← hv5]
        have hil : (idxs 0 xs).length ≤ 100000 := by have := idxs_len xs 0; omega
        obtain ⟨g6, cap6, w6, r1, hg6, -⟩ := hg2.app (fun z hz => (by cases hz)) (fun p hp => (by simp at hp)) v5 hil _ rfl
        have HN6 : Hid (GpI C G (gk - 1) (some ⟨g6, 0, none⟩) ((idxs 0 xs).length + 1) cap6 (xs ++ [x]) r m w6) := by
          refine ⟨?_, his, by omega, by rw [sizes_snoc]; omega, by omega⟩
          rw [hv5, flats_len] at hg6
          rw [flats_snoc, idxs_snoc]
          simpa using hg6
        clear hg2 hg6 hv5 HX HG1 hx his
        go_wp2_with fail
        go_roundg (gk - 1)
        case rel => exact ⟨_, _, _, _, _, _, rfl, HN6⟩
        case measure => omega
    · have hb : (isTok wInt q || isTok wLock q) = false := by simpa using hi
      rw [show (isTok (⟨#[105, 110, 116]⟩ : ByteArray).data.toList q || isTok (⟨#[108, 111, 99, 107]⟩ : ByteArray).data.toList q) = false from hb]
      have his := HJ.out.is
      have hGq : G = .ok (xs, q) := by
        rw [← his]
        cases n with
        | zero => rw [globalsT]
        | succ m => rw [globalsT, if_neg hi]
      have HZ2 : Hid (threadsT C.E xs q = Z) := by
        show _ = _
        rw [HZ.out, hGq]; rfl
      have HT0 : Hid (TpI C Z (C.T.length + 1) ka kn kc xs q w1) := ⟨hg1, HZ2.out, HJ.out.sz, by have := HJ.out.sz; omega⟩
      clear hb hg1 his hGq HG1 HJ hi hqk
      go_wp2_with fail
      go_loopg [2] (C.T.length + 1) (fun gh kv wr => ∃ ka kn kc xs q, kv = .slice ka kn kc ∧ Hid (TpI C Z gh ka kn kc xs q wr))
      case atStart => exact ⟨ka, kn, kc, xs, q, rfl, HT0⟩
      case round =>
        obtain ⟨ka2, kn2, kc2, xs2, q2, rfl, HJ⟩ := hrel
        clear HT0
        go_wp2_with fail
        refine Calls.mono (qis1g HJ.out.go wr.heap.size rfl ⟨#[116, 104, 114, 101, 97, 100]⟩ (lit_word (by decide))) ?_
        rintro e w3 ⟨rfl, hb3⟩
        have hg3 := HJ.out.go.below hb3
        have HG3 := Hid.out (p := Hid _) hg3
        have hqk := hg3.fewR.2.2.2
        have his := HJ.out.is
        rw [threadsT_is] at his
        clear hb3
        cases hi : isTok wThread q2 with
        | true =>
          obtain ⟨t, r, rfl⟩ : ∃ t r, q2 = t :: r := by
            cases q2 with
            | nil => cases hi
            | cons t r => exact ⟨t, r, rfl⟩
          have hpl : ¬ opB t.text ∧ ¬ shB t.text := by
            simp only [isTok, Bool.and_eq_true, decide_eq_true_eq] at hi
            rw [hi.2]; decide
          have htk : takeT C.E wThread (t :: r) = .ok r := by unfold takeT; rw [if_pos hi]; rfl
          rw [if_neg (by simp), htk] at his
          simp only [bindL, posOf] at his
          have HX := Hid.out (p := Hid _) (qthread (E := C.E) (d := 0) (r := r) hpl C w3 none _ _ rfl hg3)
          clear hg3 htk hi
          go_wp2_with fail
          refine Calls.mono HX.out ?_
          intro e w4 hq
          cases hx : blockT C.E 0 r with
          | error f =>
            rw [hx] at hq his
            obtain ⟨rfl, hf⟩ := hq
            subst his
            exact ⟨rfl, rfl, hf⟩
          | ok y =>
            obtain ⟨x, q5⟩ := y
            have k5 := block_len hx
            rw [hx] at hq his
            obtain ⟨rfl, hg4⟩ := hq
            simp only [bindT] at his
            have hms := HJ.out.ms
            have hszz := HJ.out.sz
            simp only [List.length_cons] at hms hszz
            obtain ⟨v5, hv5⟩ : ∃ v, v = (((flats 0 xs2).length + ndSize (.mk 4 0 t.pos [] [x]) : Nat) : Int) - 1 := ⟨_, rfl⟩
            rw [← hv5]
            have hil : (idxs 0 xs2).length ≤ 100000 := by have := idxs_len xs2 0; omega
            obtain ⟨g6, cap6, w6, r1, hg6, -⟩ := hg4.app (fun z hz => (by cases hz)) (fun p hp => (by simp at hp)) v5 hil _ rfl
            have HN6 : Hid (TpI C Z (gk - 1) (some ⟨g6, 0, none⟩) ((idxs 0 xs2).length + 1) cap6 (xs2 ++ [.mk 4 0 t.pos [] [x]]) q5 w6) := by
              refine ⟨?_, his, by rw [sizes_snoc, size_one]; omega, by omega⟩
              rw [hv5, flats_len] at hg6
              rw [flats_snoc, idxs_snoc]
              simpa using hg6
            clear hg4 hg6 hv5 HX HG3 hx his
            go_wp2_with fail
            go_roundg (gk - 1)
            case rel => exact ⟨_, _, _, _, _, rfl, HN6⟩
            case measure => omega
        | false =>
          have HN := Hid.out (p := Hid _) (qnext hg3)
          have hfd := fld0
          by_cases hq2 : q2 = []
          · subst hq2
            rw [if_pos rfl] at his
            clear hi hg3
            go_wp2_with (go_at_call 84; refine Calls.mono HN.out ?_; rintro e w4 ⟨rfl, hb⟩; simp only [tokE, endT]; have HG4 := Hid.out (p := Hid _) (HG3.out.below hb); clear hb)
            refine Calls.mono (qlast HG4.out) ?_
            rintro e w5 ⟨rfl, lv5, hF, i5, hi5, hQ5⟩
            obtain ⟨la, lc, hlv⟩ : ∃ a c, lv5 = .slice a (ndsSize xs2 + 1) c := by
              obtain ⟨ys, h5, h6, _⟩ := hF.lst
              obtain ⟨a, c, h7⟩ := owns_slice h5
              refine ⟨a, c, ?_⟩
              have : ys.length = ndsSize xs2 + 1 := by rw [← List.length_map (f := Prod.fst), h6, List.length_append, flats_len]; rfl
              rw [h7, this]
            have c3 := hQ5.c3
            rw [hlv] at c3
            have hPl := hQ5.lt
            have HQ5 := Hid.out (p := Hid _) hQ5
            have HF := Hid.out (p := Hid _) hF
            have HI5 := Hid.out (p := Hid _) hi5
            obtain ⟨N, hN⟩ : ∃ N, N = ndsSize xs2 + 1 := ⟨_, rfl⟩
            rw [← hN] at c3
            have HNN := Hid.out (p := Hid _) hN
            have HIS := Hid.out (p := Hid _) his
            clear hQ5 hF hi5 hlv his hN HN
            by_cases h6 : 600 < N
            · have hgt : (600 : Int) < (N : Int) := by omega
              go_wp2_with (go_at_call 85; refine Calls.mono (qfaultQ HQ5.out 10) ?_; rintro e w6 ⟨rfl, hb6⟩; rw [HI5.out]; have HF6 : Hid (FrP C w6) := HF.out.fr.below hb6; clear hb6)
              rw [← HIS.out]
              refine ⟨rfl, ?_⟩
              unfold PgQ
              simp only
              rw [if_pos (by rw [← HNN.out]; exact h6)]
              exact ⟨rfl, HF6.out⟩
            · have hgt : ¬ (600 : Int) < (N : Int) := by omega
              go_wp2_with fail
              go_end0
              rw [← HIS.out]
              unfold PgQ
              simp only
              rw [if_neg (by rw [← HNN.out]; exact h6)]
              exact ⟨trivial, _, HF.out⟩
          · obtain ⟨t, r, rfl⟩ : ∃ t r, q2 = t :: r := by
              cases q2 with
              | nil => exact absurd rfl hq2
              | cons t r => exact ⟨t, r, rfl⟩
            have hk0 := zero_kind (hqk t (List.mem_cons_self ..))
            have htk : takeT C.E wThread (t :: r) = .error (5, t.pos) := by unfold takeT; rw [if_neg (by rw [hi]; decide)]; rfl
            rw [if_neg hq2, htk] at his
            simp only [bindL] at his
            clear hi hg3 htk
            go_wp2_with (first
              | (go_at_call 84; refine Calls.mono HN.out ?_; rintro e w4 ⟨rfl, hb⟩; simp only [tokE]; have HG4 := Hid.out (p := Hid _) (HG3.out.below hb); clear hb)
              | (go_at_call 85; refine Calls.mono (qfault HG4.out 5) ?_; rintro e w5 ⟨rfl, hb5⟩; have HF5 : Hid (FrP C w5) := HG4.out.frp.below hb5; clear hb5))
            rw [← his]
            exact ⟨rfl, rfl, HF5.out⟩

end Go.Proofs.YtggfbfjdiikaeaaGreatDoor
