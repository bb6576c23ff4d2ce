/-
  The codes of what is told where a text cannot be read: 5 or 6.
  Whole programs as pieces of a text: what is printed is read as the same nodes, but for their bytes.
-/
import Derived.Test.YtggfbfjdiikaeaaGreatDoorSynP
import Derived.Test.YtggfbfjdiikaeaaGreatDoorSynT
namespace Go.Proofs.YtggfbfjdiikaeaaGreatDoor
section
/-- A fault's code is 5 or 6. -/
def ErrOk {α : Type} (x : Option (TRes α)) : Prop := ∀ q, x = some (.error q) → q.1 = 5 ∨ q.1 = 6
theorem err_none {α : Type} : ErrOk (none : Option (TRes α)) := fun q h => by cases h
theorem err_ok {α : Type} (a : α) (l : List Tok) : ErrOk (some (.ok (a, l)) : Option (TRes α)) := fun q h => by cases h
theorem err_and {α β : Type} {x : Option (TRes α)} {f : α → List Tok → Option (TRes β)} (hx : ErrOk x) (hf : ∀ a l, ErrOk (f a l)) : ErrOk (andT x f) := by
  intro q h
  match x, hx, h with
  | none, _, h => cases h
  | some (.error p), hx, h =>
    have h1 : p = q := Except.error.inj (Option.some.inj h)
    exact hx q (by rw [h1])
  | some (.ok (a, l)), _, h => exact hf a l q h
section
variable {e : Int}
theorem err_take {s : List UInt8} {l : List Tok} {q : Int × Int} (h : takeT e s l = .error q) : q.1 = 5 ∨ q.1 = 6 := by
  unfold takeT at h
  split at h
  · cases h
  · have h1 := Except.error.inj h
    rw [← h1]; exact Or.inl rfl
theorem err_open {s : List UInt8} {d : Nat} {l : List Tok} {q : Int × Int} (h : openT e s d l = .error q) : q.1 = 5 ∨ q.1 = 6 := by
  unfold openT at h
  split at h
  · have h1 := Except.error.inj h
    rw [← h1]; exact Or.inr rfl
  · exact err_take h
theorem err_name {l : List Tok} {q : Int × Int} (h : nameT e l = .error q) : q.1 = 5 ∨ q.1 = 6 := by
  match l, h with
  | [], h => have h1 := Except.error.inj h; rw [← h1]; exact Or.inl rfl
  | t :: r, h =>
    rw [nameT] at h
    split at h
    · cases h
    · have h1 := Except.error.inj h; rw [← h1]; exact Or.inl rfl
theorem err_tnum {l : List Tok} {q : Int × Int} (h : tnumT e l = .error q) : q.1 = 5 ∨ q.1 = 6 := by
  match l, h with
  | [], h => have h1 := Except.error.inj h; rw [← h1]; exact Or.inl rfl
  | t :: r, h =>
    rw [tnumT] at h
    split at h
    · cases h
    · have h1 := Except.error.inj h; rw [← h1]; exact Or.inl rfl
theorem err_then {β : Type} {x : Except (Int × Int) (List Tok)} {f : List Tok → Option (TRes β)} (hx : ∀ q, x = .error q → q.1 = 5 ∨ q.1 = 6) (hf : ∀ l, ErrOk (f l)) : ErrOk (thenT x f) := by
  intro q h
  match x, hx, h with
  | .error p, hx, h =>
    have h1 : p = q := Except.error.inj (Option.some.inj h)
    exact hx q (by rw [h1])
  | .ok l, _, h => exact hf l q h
theorem err_nm {β : Type} {x : TRes (List UInt8)} {f : List UInt8 → List Tok → Option (TRes β)} (hx : ∀ q, x = .error q → q.1 = 5 ∨ q.1 = 6) (hf : ∀ s l, ErrOk (f s l)) : ErrOk (nameThen x f) := by
  intro q h
  match x, hx, h with
  | .error p, hx, h =>
    have h1 : p = q := Except.error.inj (Option.some.inj h)
    exact hx q (by rw [h1])
  | .ok (s, l), _, h => exact hf s l q h
theorem err_prim (l : List Tok) : ErrOk (some (primT e l)) := by
  intro q h
  have h1 : primT e l = .error q := by simpa using h
  unfold primT at h1
  split at h1
  · cases h1
  · split at h1
    · cases h1
    · rename_i f hf
      have h2 := Except.error.inj h1
      rw [← h2]
      exact err_name hf
theorem err_expr : ∀ n, (∀ k d l, ErrOk (exprF e n k d l)) ∧ (∀ k d x l, ErrOk (loopF e n k d x l)) ∧ (∀ d l, ErrOk (unaryF e n d l)) ∧ ∀ d l, ErrOk (heldF e n d l)
  | 0 => ⟨fun _ _ _ => by rw [exprF]; exact err_none, fun _ _ _ _ => by rw [loopF]; exact err_none, fun _ _ => by rw [unaryF]; exact err_none, fun _ _ => by rw [heldF]; exact err_none⟩
  | n + 1 => by
    obtain ⟨h1, h2, h3, h4⟩ := err_expr n
    refine ⟨fun k d l => ?_, fun k d x l => ?_, fun d l => ?_, fun d l => ?_⟩
    · rw [exprF]
      split
      · exact h3 _ _
      · exact err_and (h1 _ _ _) fun _ _ => h2 _ _ _ _
    · rw [loopF]
      split
      · exact err_ok _ _
      · exact err_and (h1 _ _ _) fun _ _ => h2 _ _ _ _
    · rw [unaryF]
      split
      · exact err_then (fun _ => err_open) fun _ => err_and (h3 _ _) fun _ _ => err_ok _ _
      · split
        · exact err_then (fun _ => err_open) fun _ => err_and (h3 _ _) fun _ _ => err_ok _ _
        · split
          · exact h4 _ _
          · exact err_prim _
    · rw [heldF]
      exact err_then (fun _ => err_open) fun _ => err_and (h1 _ _ _) fun _ _ => err_then (fun _ => err_take) fun _ => err_ok _ _
theorem err_et {β : Type} {n d : Nat} {s : List UInt8} {l : List Tok} {f : Nd → List Tok → Option (TRes β)} (hf : ∀ a l, ErrOk (f a l)) : ErrOk (exprThen e n d s l f) :=
  err_and ((err_expr n).1 _ _ _) fun _ _ => err_then (fun _ => err_take) fun _ => hf _ _
theorem err_plain (n d : Nat) (l : List Tok) : ErrOk (plainF e n d l) := by
  unfold plainF
  split
  · exact err_nm (fun _ => err_name) fun _ _ => err_then (fun _ => err_take) fun _ => err_et fun _ _ => err_ok _ _
  · split
    · exact err_and ((err_expr n).2.2.2 _ _) fun _ _ => err_then (fun _ => err_take) fun _ => err_ok _ _
    · split
      · exact err_then (fun _ => err_open) fun _ => err_nm (fun _ => err_name) fun _ _ => err_then (fun _ => err_take) fun _ => err_then (fun _ => err_take) fun _ => err_ok _ _
      · split
        · exact err_then (fun _ => err_take) fun _ => err_ok _ _
        · unfold assignF
          refine err_nm (fun _ => err_name) fun _ _ => err_then (fun _ => err_take) fun _ => ?_
          split
          · exact err_then (fun _ => err_take) fun _ => err_then (fun _ => err_open) fun _ => err_nm (fun _ => err_name) fun _ _ => err_then (fun _ => err_take) fun _ => err_et fun _ _ => err_et fun _ _ => err_then (fun _ => err_take) fun _ => err_ok _ _
          · exact err_et fun _ _ => err_ok _ _
theorem err_stmt : ∀ n, (∀ d l, ErrOk (stmtF e n d l)) ∧ (∀ d l, ErrOk (blockF e n d l)) ∧ ∀ d ks l, ErrOk (stmtsF e n d ks l)
  | 0 => ⟨fun _ _ => by rw [stmtF]; exact err_none, fun _ _ => by rw [blockF]; exact err_none, fun _ _ _ => by rw [stmtsF]; exact err_none⟩
  | n + 1 => by
    obtain ⟨h1, h2, h3⟩ := err_stmt n
    have hh := (err_expr (e := e) n).2.2.2
    refine ⟨fun d l => ?_, fun d l => ?_, fun d ks l => ?_⟩
    · rw [stmtF]
      split
      · refine err_and (hh _ _) fun _ _ => err_and (h2 _ _) fun _ _ => ?_
        split
        · exact err_and (h2 _ _) fun _ _ => err_ok _ _
        · exact err_ok _ _
      · split
        · exact err_and (hh _ _) fun _ _ => err_and (h2 _ _) fun _ _ => err_ok _ _
        · exact err_plain _ _ _
    · rw [blockF]
      exact err_then (fun _ => err_open) fun _ => err_and (h3 _ _ _) fun _ _ => err_then (fun _ => err_take) fun _ => err_ok _ _
    · rw [stmtsF]
      split
      · exact err_ok _ _
      · exact err_and (h1 _ _) fun _ _ => h3 _ _ _
theorem err_global {l : List Tok} {q : Int × Int} (h : globalT e l = .error q) : q.1 = 5 ∨ q.1 = 6 := by
  unfold globalT at h
  split at h
  · split at h
    · rename_i f hf
      have h1 := Except.error.inj h
      rw [← h1]; exact err_name hf
    · split at h
      · rename_i f hf
        have h1 := Except.error.inj h
        rw [← h1]; exact err_take hf
      · cases h
  · split at h
    · rename_i f hf
      have h1 := Except.error.inj h
      rw [← h1]; exact err_take hf
    · split at h
      · rename_i f hf
        have h1 := Except.error.inj h
        rw [← h1]; exact err_name hf
      · split at h
        · split at h
          · rename_i f hf
            have h1 := Except.error.inj h
            rw [← h1]; exact err_tnum hf
          · split at h
            · rename_i f hf
              have h1 := Except.error.inj h
              rw [← h1]; exact err_take hf
            · cases h
        · split at h
          · rename_i f hf
            have h1 := Except.error.inj h
            rw [← h1]; exact err_take hf
          · cases h
theorem err_globals : ∀ (n : Nat) (ks : List Nd) (l : List Tok) (q : Int × Int), globalsT e n ks l = .error q → q.1 = 5 ∨ q.1 = 6
  | 0, _, _, _, h => by rw [globalsT] at h; cases h
  | n + 1, ks, l, q, h => by
    rw [globalsT] at h
    split at h
    · split at h
      · rename_i f hf
        have h1 := Except.error.inj h
        rw [← h1]; exact err_global hf
      · exact err_globals n _ _ q h
    · cases h
theorem err_threads : ∀ n ks l, ErrOk (threadsF e n ks l)
  | 0, _, _ => by rw [threadsF]; exact err_none
  | n + 1, ks, l => by
    rw [threadsF]
    split
    · exact err_ok _ _
    · exact err_then (fun _ => err_take) fun _ => err_and ((err_stmt n).2.1 _ _) fun _ _ => err_threads n _ _
theorem err_prog (n : Nat) (l : List Tok) : ErrOk (progF e n l) := by
  unfold progF
  split
  · rename_i f hf
    intro q h
    have h1 : f = q := by simpa using h
    rw [← h1]; exact err_globals _ _ _ _ hf
  · exact err_threads _ _ _
end
end

section
theorem good_n : ∀ N x i, ndSize x ≤ N → WfN x → PcN i x
  | 0, .mk _ _ _ _ _, _, hN, _ => by simp [ndSize] at hN
  | N + 1, .mk k n p t ks, i, hN, hw => by
    rw [WfN] at hw
    by_cases hk : 15 ≤ k
    · rw [if_pos hk] at hw
      have := good_x _ _ (Nat.le_refl _) hw
      refine ⟨fun _ => ?_, fun h => ?_, fun h => ?_⟩
      · rw [pcsN, if_pos hk, toksN, if_pos hk]; exact this
      · have : k = 5 := h
        omega
      · have : 6 ≤ k ∧ k ≤ 14 := h
        omega
    · rw [if_neg hk] at hw
      obtain ⟨rfl, hs, hks⟩ := hw
      refine good_node hk hs fun x hx => good_n N x _ ?_ (wfNs_mem hks hx)
      have := size_mem hx
      rw [ndSize] at hN
      omega

/-- The pieces of a global, of a thread. -/
def pcsG : Nd → List Pc
  | .mk k n _ t ks =>
    if k = 2 then pW wInt :: .b 32 :: pNm t :: ((if n = 0 then [] else .b 32 :: pS 61 :: .b 32 :: ((if n < 0 then [pS 45] else []) ++ [.t (3, (n.natAbs : Int), Lib.decDigits n.natAbs)])) ++ [pS 59, .b 10])
    else if k = 3 then [pW wLock, .b 32, pNm t, pS 59, .b 10]
    else pW wThread :: .b 32 :: ((pcsNs 0 ks).flatten ++ [.b 10])
theorem good_g {x : Nd} (hw : WfG x) : PcS (pcsG x) (toksG x) := by
  match x, hw with
  | .mk k n p t ks, hw =>
    rcases hw with ⟨rfl, ht, hn, rfl⟩ | ⟨rfl, rfl, ht, rfl⟩
    · rw [pcsG, if_pos rfl, toksG, if_pos rfl]
      have hnum : TkOk (3, (n.natAbs : Int), Lib.decDigits n.natAbs) := Or.inr (Or.inr (Or.inl ⟨rfl, by show (0 : Int) ≤ (n.natAbs : Int); omega, by show (n.natAbs : Int) ≤ 999999999; omega, by show _ = Lib.decDigits ((n.natAbs : Int)).toNat; rw [Int.toNat_natCast]⟩))
      have hd := dec_digs n.natAbs n.natAbs (Nat.le_refl _)
      obtain ⟨c, r, hl⟩ := List.exists_cons_of_ne_nil hd.2.1
      have hc : endS c = true := by
        have := hd.1
        rw [hl] at this
        simp only [List.all_cons, Bool.and_eq_true] at this
        exact beg_end (by simp [begB, this.1])
      by_cases h0 : n = 0
      · rw [if_pos h0, if_pos h0]
        exact ⟨rfl, fun s => ⟨tk_w (by decide), fol_b (tk_w (by decide)) (c := 32) (by decide), by decide, tk_n ht, fol_b (tk_n ht) (c := 59) (by decide), tk_s (by decide), fol_b (tk_s (by decide)) (c := 10) (by decide), by decide, trivial⟩⟩
      · rw [if_neg h0, if_neg h0]
        by_cases hneg : n < 0
        · rw [if_pos hneg, if_pos hneg]
          refine ⟨rfl, fun s => ⟨tk_w (by decide), fol_b (tk_w (by decide)) (c := 32) (by decide), by decide, tk_n ht, fol_b (tk_n ht) (c := 32) (by decide), by decide, tk_s (by decide), fol_b (tk_s (by decide)) (c := 32) (by decide), by decide, tk_s (by decide), ?_, hnum, fol_b hnum (c := 59) (by decide), tk_s (by decide), fol_b (tk_s (by decide)) (c := 10) (by decide), by decide, trivial⟩⟩
          show folB (4, 0, [45]) ((Lib.decDigits n.natAbs ++ _) ++ s)
          rw [hl]
          exact fol_s (tk_s (by decide)) rfl hc
        · rw [if_neg hneg, if_neg hneg]
          exact ⟨rfl, fun s => ⟨tk_w (by decide), fol_b (tk_w (by decide)) (c := 32) (by decide), by decide, tk_n ht, fol_b (tk_n ht) (c := 32) (by decide), by decide, tk_s (by decide), fol_b (tk_s (by decide)) (c := 32) (by decide), by decide, hnum, fol_b hnum (c := 59) (by decide), tk_s (by decide), fol_b (tk_s (by decide)) (c := 10) (by decide), by decide, trivial⟩⟩
    · rw [pcsG, if_neg (by decide), if_pos rfl, toksG, if_neg (by decide), if_pos rfl]
      exact ⟨rfl, fun s => ⟨tk_w (by decide), fol_b (tk_w (by decide)) (c := 32) (by decide), by decide, tk_n ht, fol_b (tk_n ht) (c := 59) (by decide), tk_s (by decide), fol_b (tk_s (by decide)) (c := 10) (by decide), by decide, trivial⟩⟩
theorem good_t {x : Nd} (hw : WfT x) : PcS (pcsG x) (toksG x) := by
  match x, hw with
  | .mk k n p t ks, hw =>
    obtain ⟨rfl, rfl, rfl, b, rfl, hb, h5, _⟩ := hw
    rw [pcsG, if_neg (by decide), if_neg (by decide), toksG, if_neg (by decide), if_neg (by decide)]
    have h := (good_n _ b 0 (Nat.le_refl _) hb).2.1 h5
    simp only [pcsNs, toksNs, List.flatten_cons, List.flatten_nil, List.append_nil]
    refine ⟨by simp only [pcsT, pcsT_app, h.1, List.append_nil], fun s => ⟨tk_w (by decide), fol_b (tk_w (by decide)) (c := 32) (by decide), by decide, b_then h (head_b (c := 10) (by decide)) ⟨by decide, trivial⟩⟩⟩
/-- A program's pieces. -/
def pcsP (ks : List Nd) : List Pc := (ks.map pcsG).flatten
theorem good_p {ks : List Nd} (hw : WfP ks) : PcS (pcsP ks) (ks.map toksG).flatten := by
  obtain ⟨gs, ts, rfl, hg, ht⟩ := hw
  have key : ∀ l : List Nd, (∀ x, x ∈ l → PcS (pcsG x) (toksG x)) → AllS (l.map pcsG) (l.map toksG) := by
    intro l
    induction l with
    | nil => exact fun _ => trivial
    | cons x r ih => exact fun h => ⟨h x (by simp), ih fun y hy => h y (by simp [hy])⟩
  refine good_all (key _ fun x hx => ?_)
  rcases List.mem_append.1 hx with hx | hx
  · exact good_g (hg x hx)
  · exact good_t (ht x hx)
/-- A token has a byte at least. -/
theorem pcsT_len {s : List UInt8} : ∀ {P : List Pc}, PcOk s P → (pcsT P).length ≤ (pcsB P).length
  | [], _ => Nat.le_refl _
  | .b c :: r, h => by
    have := pcsT_len h.2
    simp only [pcsT, pcsB, pcB, List.length_append, List.length_cons, List.length_nil]
    omega
  | .t a :: r, h => by
    have := pcsT_len h.2.2
    obtain ⟨_, b, q, hb, _⟩ := one_tok h.1 _ h.2.1
    simp only [pcsT, pcsB, pcB, List.length_append, List.length_cons, hb]
    omega

mutual
theorem erase_size : ∀ x, ndSize (erase x) = ndSize x
  | .mk _ _ _ _ ks => by rw [erase, ndSize, ndSize, erases_size ks]
theorem erases_size : ∀ ks, ndsSize (erases ks) = ndsSize ks
  | [] => rfl
  | x :: r => by rw [erases, ndsSize, ndsSize, erase_size x, erases_size r]
end
theorem idxs_erase : ∀ (ks : List Nd) (b : Nat), idxs b (erases ks) = idxs b ks
  | [], _ => rfl
  | x :: r, b => by rw [erases, idxs, idxs, erase_size, idxs_erase r]
/-- A row without its byte. -/
def eraseR (r : Row) : Row := { r with pos := 0 }
mutual
theorem flat_erase : ∀ (x : Nd) (b : Nat), flat b (erase x) = (flat b x).map eraseR
  | .mk k n p t ks, b => by rw [erase, flat, flat, flats_erase ks b, idxs_erase, List.map_append]; rfl
theorem flats_erase : ∀ (ks : List Nd) (b : Nat), flats b (erases ks) = (flats b ks).map eraseR
  | [], _ => rfl
  | x :: r, b => by rw [erases, flats, flats, flat_erase x b, erase_size, flats_erase r, List.map_append]
end
theorem bind_erase (x : Nd) : bindX (erase x) = bindX x := by
  match x with
  | .mk k n p t ks => rfl
theorem pcsX_erase : ∀ N x, ndSize x ≤ N → pcsX (erase x) = pcsX x
  | 0, .mk _ _ _ _ _, hN => by simp [ndSize] at hN
  | N + 1, .mk k n p t ks, hN => by
    match ks, hN with
    | [], _ => rw [erase, erases, pcsX, pcsX]
    | [a], hN =>
      rw [erase, erases, erases, pcsX, pcsX]
      simp only [bind_erase]
      rw [pcsX_erase N a (by simp only [ndSize, ndsSize] at hN; omega)]
    | a :: b :: r, hN =>
      rw [erase, erases, erases, pcsX, pcsX]
      simp only [bind_erase]
      rw [pcsX_erase N a (by simp only [ndSize, ndsSize] at hN; omega), pcsX_erase N b (by simp only [ndSize, ndsSize] at hN; omega)]
mutual
theorem pcsN_erase : ∀ (x : Nd) (i : Nat), pcsN i (erase x) = pcsN i x
  | .mk k n p t ks, i => by
    have h := pcsX_erase _ (.mk k n p t ks) (Nat.le_refl _)
    rw [erase] at h ⊢
    rw [pcsN, pcsN, h, pcsNs_erase ks]
theorem pcsNs_erase : ∀ (ks : List Nd) (i : Nat), pcsNs i (erases ks) = pcsNs i ks
  | [], _ => rfl
  | x :: r, i => by rw [erases, pcsNs, pcsNs, pcsN_erase x, pcsNs_erase r]
end
theorem pcsP_erase : ∀ ks : List Nd, pcsP (erases ks) = pcsP ks
  | [] => rfl
  | .mk k n p t ks :: r => by
    have h := pcsP_erase r
    unfold pcsP at h ⊢
    rw [erases, List.map_cons, List.map_cons, List.flatten_cons, List.flatten_cons, h, erase, pcsG, pcsG, pcsNs_erase]

/-- A program's nodes. -/
def rowsP (ks : List Nd) : List Row := flats 0 ks ++ [⟨1, 0, 0, [], idxs 0 ks⟩]
/-- WHAT IS PRINTED IS READ AS THE SAME NODES, but for their bytes; and it is printed as it was. -/
theorem print_back {s : List UInt8} {n : Nat} {rows : List Row} (h : parseF n s = some (rows, 0, 0)) :
    ∃ ks, rows = rowsP ks ∧ WfP ks ∧ ndsSize ks + 1 ≤ 600 ∧ ((pcsB (pcsP ks)).length ≤ 4000 → ∃ m ks', parseF m (pcsB (pcsP ks)) = some (rowsP ks', 0, 0) ∧ (rowsP ks').map eraseR = rows.map eraseR ∧ pcsP ks' = pcsP ks) := by
  unfold parseF at h
  split at h
  · rename_i hne
    simp only [Option.some.injEq, Prod.mk.injEq] at h
    have := h.2
    rw [this] at hne
    exact absurd rfl hne
  · split at h
    · cases h
    · rename_i f hf
      simp only [Option.some.injEq, Prod.mk.injEq] at h
      have hc := err_prog _ _ f hf
      rw [h.2] at hc
      exact absurd hc (by decide)
    · rename_i ks r hp
      split at h
      · simp only [Option.some.injEq, Prod.mk.injEq] at h
        exact absurd h.2.1 (by decide)
      · rename_i hsz
        simp only [Option.some.injEq, Prod.mk.injEq] at h
        obtain ⟨rfl, _⟩ := h
        have hw := prog_wf (scanL_ok s) hp
        refine ⟨ks, rfl, hw, by omega, fun hlen => ?_⟩
        have hg := good_p hw
        have hok := hg.2 []
        obtain ⟨l, hl, hst⟩ := scan_pcs (pcsP ks) hok ((pcsB (pcsP ks)).length + 1) 0 [] (by have := pcsT_len hok; omega)
        have hsc : scanL (pcsB (pcsP ks)) = (l, 0, 0) := by unfold scanL; rw [if_neg (by omega), hl, List.nil_append]
        obtain ⟨ks', ⟨m, hm⟩, he⟩ := read_p (e := ((pcsB (pcsP ks)).length : Int)) hw (l := l) (by rw [hst, hg.1])
        have hm2 : progF ((pcsB (pcsP ks)).length : Int) m l = some (.ok (ks', [])) := hm
        have hsz2 : ndsSize ks' = ndsSize ks := by rw [← erases_size ks', he, erases_size]
        refine ⟨m, ks', ?_, ?_, by rw [← pcsP_erase, he, pcsP_erase]⟩
        · unfold parseF
          rw [hsc]
          simp only [ne_eq, not_true, if_false, hm2]
          rw [if_neg (by omega)]
          rfl
        · unfold rowsP
          rw [List.map_append, List.map_append, ← flats_erase, ← flats_erase, he, List.map_cons, List.map_cons]
          simp only [eraseR, List.map_nil]
          rw [← idxs_erase ks', he, idxs_erase]
end

end Go.Proofs.YtggfbfjdiikaeaaGreatDoor
