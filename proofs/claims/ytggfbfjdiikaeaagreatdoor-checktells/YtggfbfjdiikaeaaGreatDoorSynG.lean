/-
  Whole programs: what is printed is read as it was, what is read is one.
  Texts made of tokens and blanks: their tokens are found again; and what is found are tokens.
-/
import Derived.Test.YtggfbfjdiikaeaaGreatDoorSynB
import Derived.Test.YtggfbfjdiikaeaaGreatDoorBase
namespace Go.Proofs.YtggfbfjdiikaeaaGreatDoor
section
/-- The tokens of a global, of a thread. -/
def toksG : Nd → List Tk
  | .mk k n _ t ks =>
    if k = 2 then (2, 0, wInt) :: (1, 0, t) :: ((if n = 0 then [] else (4, 0, [61]) :: ((if n < 0 then [(4, 0, [45])] else []) ++ [(3, (n.natAbs : Int), Lib.decDigits n.natAbs)])) ++ [(4, 0, [59])])
    else if k = 3 then [(2, 0, wLock), (1, 0, t), (4, 0, [59])]
    else (2, 0, wThread) :: (toksNs ks).flatten
/-- What is a global. -/
def WfG : Nd → Prop
  | .mk k n _ t ks => (k = 2 ∧ NameOk t ∧ n.natAbs ≤ 999999999 ∧ ks = []) ∨ (k = 3 ∧ n = 0 ∧ NameOk t ∧ ks = [])
/-- What is a thread. -/
def WfT : Nd → Prop
  | .mk k n _ t ks => k = 4 ∧ n = 0 ∧ t = [] ∧ ∃ b, ks = [b] ∧ WfN b ∧ kindN b = 5 ∧ depN b ≤ 20
/-- What is a program. -/
def WfP (ks : List Nd) : Prop := ∃ gs ts, ks = gs ++ ts ∧ (∀ x, x ∈ gs → WfG x) ∧ ∀ x, x ∈ ts → WfT x

section
variable {e : Int}
theorem num_is {t : Tok} {s : List UInt8} {v : Int} (h : strip t = (3, v, s)) (r : List Tok) : tnumT e (t :: r) = .ok (v, r) := by
  simp only [strip, Prod.mk.injEq] at h
  rw [tnumT, if_pos h.1, h.2.1]
theorem read_g {x : Nd} (hw : WfG x) {l1 : List Tok} (hl : l1.map strip = toksG x) (rest : List Tok) :
    (isTok wInt (l1 ++ rest) = true ∨ isTok wLock (l1 ++ rest) = true) ∧ ∃ x', globalT e (l1 ++ rest) = .ok (x', rest) ∧ erase x' = erase x ∧ l1 ≠ [] := by
  match x, hw, hl with
  | .mk k n p t ks, hw, hl =>
    rcases hw with ⟨rfl, ht, hn, rfl⟩ | ⟨rfl, rfl, ht, rfl⟩
    · rw [toksG, if_pos rfl] at hl
      obtain ⟨t0, q, rfl, h0, hl⟩ := strip_cons hl
      obtain ⟨t1, q, rfl, h1, hl⟩ := strip_cons hl
      have hi := is_yes (Or.inr h0) (t1 :: (q ++ rest))
      have hlk := is_other h0 (s' := wLock) (by decide) (t1 :: (q ++ rest))
      refine ⟨Or.inl hi, ?_⟩
      show ∃ x', globalT e (t0 :: t1 :: (q ++ rest)) = .ok (x', rest) ∧ _
      unfold globalT
      rw [if_neg (by rw [hlk]; simp), take_yes hi]
      simp only [name_is h1]
      by_cases h0n : n = 0
      · rw [if_pos h0n] at hl
        obtain ⟨c, v, rfl, hc, hv⟩ := strip_cons hl
        obtain rfl : v = [] := by simpa using hv
        refine ⟨.mk 2 0 t0.pos t [], ?_, by simp [erase, erases, h0n], by simp⟩
        simp only [List.cons_append, List.nil_append]
        rw [if_neg (by rw [is_other hc (by decide)]; simp), take_yes (is_yes (Or.inl hc) rest)]
        rfl
      · rw [if_neg h0n] at hl
        obtain ⟨t2, q, rfl, h2, hl⟩ := strip_cons hl
        by_cases hneg : n < 0
        · rw [if_pos hneg] at hl
          obtain ⟨t3, q, rfl, h3, hl⟩ := strip_cons hl
          obtain ⟨t4, q, rfl, h4, hl⟩ := strip_cons hl
          obtain ⟨c, v, rfl, hc, hv⟩ := strip_cons hl
          obtain rfl : v = [] := by simpa using hv
          refine ⟨.mk 2 n t0.pos t [], ?_, by simp [erase, erases], by simp⟩
          simp only [List.cons_append, List.nil_append, List.tail_cons]
          rw [if_pos (is_yes (Or.inl h2) _)]
          simp only [is_yes (Or.inl h3) (t4 :: c :: rest), if_true, num_is h4, take_yes (is_yes (Or.inl hc) rest), posOf]
          have : -(n.natAbs : Int) = n := by omega
          rw [this]
        · rw [if_neg hneg] at hl
          obtain ⟨t4, q, rfl, h4, hl⟩ := strip_cons hl
          obtain ⟨c, v, rfl, hc, hv⟩ := strip_cons hl
          obtain rfl : v = [] := by simpa using hv
          refine ⟨.mk 2 n t0.pos t [], ?_, by simp [erase, erases], by simp⟩
          simp only [List.cons_append, List.nil_append, List.tail_cons]
          rw [if_pos (is_yes (Or.inl h2) _)]
          simp only [is_kind h4 (Or.inr rfl) (c :: rest), Bool.false_eq_true, if_false, num_is h4, take_yes (is_yes (Or.inl hc) rest), posOf]
          have : (n.natAbs : Int) = n := by omega
          rw [this]
    · rw [toksG, if_neg (by decide), if_pos rfl] at hl
      obtain ⟨t0, q, rfl, h0, hl⟩ := strip_cons hl
      obtain ⟨t1, q, rfl, h1, hl⟩ := strip_cons hl
      obtain ⟨c, v, rfl, hc, hv⟩ := strip_cons hl
      obtain rfl : v = [] := by simpa using hv
      have hi := is_yes (Or.inr h0) (t1 :: c :: rest)
      refine ⟨Or.inr hi, .mk 3 0 t0.pos t [], ?_, by simp [erase, erases], by simp⟩
      show globalT e (t0 :: t1 :: c :: rest) = _
      unfold globalT
      rw [if_pos hi]
      simp only [List.tail_cons, name_is h1, take_yes (is_yes (Or.inl hc) rest), posOf]
/-- Globals, and behind them something else. -/
theorem read_gs {rest : List Tok} (h1 : isTok wInt rest = false) (h2 : isTok wLock rest = false) : ∀ (gs : List Nd), (∀ x, x ∈ gs → WfG x) → ∀ (n : Nat) (acc : List Nd) (l1 : List Tok), l1.length ≤ n → l1.map strip = (gs.map toksG).flatten →
    ∃ gs', globalsT e n acc (l1 ++ rest) = .ok (acc ++ gs', rest) ∧ erases gs' = erases gs
  | [], _, n, acc, l1, _, hl => by
    obtain rfl : l1 = [] := by simpa using hl
    refine ⟨[], ?_, rfl⟩
    rw [List.nil_append, List.append_nil]
    cases n with
    | zero => rw [globalsT]
    | succ n => rw [globalsT, if_neg (by rw [h1, h2]; simp)]
  | x :: gs, hw, n, acc, l1, hn, hl => by
    obtain ⟨u, v, rfl, hu, hv⟩ := strip_app (by simpa using hl : l1.map strip = toksG x ++ (gs.map toksG).flatten)
    obtain ⟨hi, x', hg, he, hne⟩ := read_g (e := e) (hw x (by simp)) hu (v ++ rest)
    have hu1 : 1 ≤ u.length := by
      cases u with
      | nil => exact absurd rfl hne
      | cons a b => simp
    rw [List.length_append] at hn
    cases n with
    | zero => omega
    | succ n =>
      obtain ⟨gs', hr, hes⟩ := read_gs h1 h2 gs (fun y hy => hw y (by simp [hy])) n (acc ++ [x']) v (by omega) hv
      refine ⟨x' :: gs', ?_, by simp [erases, he, hes]⟩
      rw [List.append_assoc, globalsT, if_pos hi, hg]
      simp only [hr, List.append_assoc, List.cons_append, List.nil_append]
theorem read_ts : ∀ (ts : List Nd), (∀ x, x ∈ ts → WfT x) → ∀ (acc : List Nd) (l1 : List Tok), l1.map strip = (ts.map toksG).flatten → ∃ ts', Tell (fun n => threadsF e n acc l1) (.ok (acc ++ ts', [])) ∧ erases ts' = erases ts
  | [], _, acc, l1, hl => by
    obtain rfl : l1 = [] := by simpa using hl
    exact ⟨[], ⟨1, by show threadsF e 1 acc [] = _; rw [threadsF, if_pos rfl, List.append_nil]⟩, rfl⟩
  | x :: ts, hw, acc, l1, hl => by
    have hx := hw x (by simp)
    obtain ⟨u, v, rfl, hu, hv⟩ := strip_app (by simpa using hl : l1.map strip = toksG x ++ (ts.map toksG).flatten)
    match x, hx, hu with
    | .mk k n p t ks, hx, hu =>
      obtain ⟨rfl, rfl, rfl, b, rfl, hb1, hb2, hb3⟩ := hx
      rw [toksG, if_neg (by decide), if_neg (by decide)] at hu
      obtain ⟨t0, q, rfl, h0, hu⟩ := strip_cons hu
      have hu' : q.map strip = toksN b := by simpa [toksNs] using hu
      obtain ⟨b', ⟨n, hn⟩, he⟩ := (read_n e (ndSize b) b (Nat.le_refl _) hb1).2 hb2 0 q v hu' (by omega)
      obtain ⟨ts', ⟨m, hm⟩, hes⟩ := read_ts ts (fun y hy => hw y (by simp [hy])) (acc ++ [.mk 4 0 t0.pos [] [b']]) v hv
      refine ⟨.mk 4 0 t0.pos [] [b'] :: ts', ⟨n + m + 1, ?_⟩, by simp [erases, erase, he, hes]⟩
      show threadsF e (n + m + 1) acc (t0 :: (q ++ v)) = _
      have k1 : blockF e (n + m) 0 (q ++ v) = some (.ok (b', v)) := tell_more (bl_up 0 _) hn (by omega)
      have k2 : threadsF e (n + m) (acc ++ [.mk 4 0 t0.pos [] [b']]) v = some (.ok (acc ++ [.mk 4 0 t0.pos [] [b']] ++ ts', [])) := tell_more (fun n => threads_le e n _ _) hm (by omega)
      rw [threadsF, if_neg (by simp), take_yes (is_yes (Or.inr h0) _)]
      simp only [thenT, k1, andT, posOf, k2, List.append_assoc, List.cons_append, List.nil_append]
/-- WHAT IS PRINTED OF A PROGRAM IS READ AS IT WAS. -/
theorem read_p {ks : List Nd} (hw : WfP ks) {l : List Tok} (hl : l.map strip = (ks.map toksG).flatten) : ∃ ks', Tell (fun n => progF e n l) (.ok (ks', [])) ∧ erases ks' = erases ks := by
  obtain ⟨gs, ts, rfl, hg, ht⟩ := hw
  rw [List.map_append, List.flatten_append] at hl
  obtain ⟨u, v, rfl, hu, hv⟩ := strip_app hl
  have hno : isTok wInt v = false ∧ isTok wLock v = false := by
    match ts, ht, hv with
    | [], _, hv =>
      obtain rfl : v = [] := by simpa using hv
      exact ⟨rfl, rfl⟩
    | .mk k n p t ks :: r, ht, hv =>
      obtain ⟨rfl, _⟩ := ht (.mk k n p t ks) (by simp)
      have hv' : v.map strip = (2, 0, wThread) :: ((toksNs ks).flatten ++ (r.map toksG).flatten) := by
        simpa [toksG] using hv
      obtain ⟨t0, q, rfl, h0, _⟩ := strip_cons hv'
      exact ⟨is_other h0 (by decide) _, is_other h0 (by decide) _⟩
  obtain ⟨gs', h1, he1⟩ := read_gs (e := e) hno.1 hno.2 gs hg (u ++ v).length [] u (by simp) hu
  obtain ⟨ts', ⟨n, hn⟩, he2⟩ := read_ts (e := e) ts ht gs' v hv
  refine ⟨gs' ++ ts', ⟨n, ?_⟩, by rw [erases_append, erases_append, he1, he2]⟩
  show progF e n (u ++ v) = _
  unfold progF
  rw [h1]
  simpa using hn
end

section
variable {e : Int}
theorem tnum_ok {v : Int} {l r : List Tok} (hl : ToksOk l) (h : tnumT e l = .ok (v, r)) : 0 ≤ v ∧ v ≤ 999999999 ∧ r = l.tail := by
  match l, h with
  | t :: q, h =>
    rw [tnumT] at h
    split at h
    · rename_i h1
      have h2 : (t.num, q) = (v, r) := Except.ok.inj h
      simp only [Prod.mk.injEq] at h2
      obtain ⟨rfl, rfl⟩ := h2
      rcases hl t (by simp) with h3 | h3 | h3 | h3
      · omega
      · omega
      · exact ⟨h3.2.1, h3.2.2.1, rfl⟩
      · omega
    · cases h
theorem global_wf {x : Nd} {l r : List Tok} (hl : ToksOk l) (h : globalT e l = .ok (x, r)) : WfG x ∧ ToksOk r := by
  unfold globalT at h
  split at h
  · split at h
    · cases h
    · rename_i s q hs
      obtain ⟨h1, rfl⟩ := name_ok hl.tail hs
      split at h
      · cases h
      · rename_i q2 hq
        obtain ⟨_, rfl⟩ := take_ok hq
        have h2 := Except.ok.inj h
        simp only [Prod.mk.injEq] at h2
        obtain ⟨rfl, rfl⟩ := h2
        exact ⟨Or.inr ⟨rfl, rfl, h1, rfl⟩, hl.tail.tail.tail⟩
  · split at h
    · cases h
    · rename_i l1 hl1
      obtain ⟨_, rfl⟩ := take_ok hl1
      split at h
      · cases h
      · rename_i s q hs
        obtain ⟨h1, rfl⟩ := name_ok hl.tail hs
        split at h
        · split at h
          · cases h
          · rename_i v q hv
            have hok : ToksOk (if isTok [45] l.tail.tail.tail = true then l.tail.tail.tail.tail else l.tail.tail.tail) := by
              split
              · exact hl.tail.tail.tail.tail
              · exact hl.tail.tail.tail
            obtain ⟨v1, v2, rfl⟩ := tnum_ok hok hv
            split at h
            · cases h
            · rename_i q2 hq
              obtain ⟨_, rfl⟩ := take_ok hq
              have h2 := Except.ok.inj h
              simp only [Prod.mk.injEq] at h2
              obtain ⟨rfl, rfl⟩ := h2
              exact ⟨Or.inl ⟨rfl, h1, by split <;> omega, rfl⟩, hok.tail.tail⟩
        · split at h
          · cases h
          · rename_i q2 hq
            obtain ⟨_, rfl⟩ := take_ok hq
            have h2 := Except.ok.inj h
            simp only [Prod.mk.injEq] at h2
            obtain ⟨rfl, rfl⟩ := h2
            exact ⟨Or.inl ⟨rfl, h1, by decide, rfl⟩, hl.tail.tail.tail⟩
theorem globals_wf : ∀ n ks l ks' r, ToksOk l → (∀ x, x ∈ ks → WfG x) → globalsT e n ks l = .ok (ks', r) → (∀ x, x ∈ ks' → WfG x) ∧ ToksOk r
  | 0, ks, l, ks', r, hl, hk, h => by
    rw [globalsT] at h
    have h2 := Except.ok.inj h
    simp only [Prod.mk.injEq] at h2
    obtain ⟨rfl, rfl⟩ := h2
    exact ⟨hk, hl⟩
  | n + 1, ks, l, ks', r, hl, hk, h => by
    rw [globalsT] at h
    split at h
    · split at h
      · cases h
      · rename_i x q hx
        obtain ⟨h1, h2⟩ := global_wf hl hx
        refine globals_wf n (ks ++ [x]) q ks' r h2 (fun y hy => ?_) h
        rcases List.mem_append.1 hy with hy | hy
        · exact hk y hy
        · obtain rfl : y = x := by simpa using hy
          exact h1
    · have h2 := Except.ok.inj h
      simp only [Prod.mk.injEq] at h2
      obtain ⟨rfl, rfl⟩ := h2
      exact ⟨hk, hl⟩
theorem threads_wf (gs : List Nd) : ∀ n ts l ks' r, ToksOk l → (∀ x, x ∈ ts → WfT x) → threadsF e n (gs ++ ts) l = some (.ok (ks', r)) → ∃ ts', ks' = gs ++ ts' ∧ ∀ x, x ∈ ts' → WfT x
  | 0, _, _, _, _, _, _, h => by rw [threadsF] at h; cases h
  | n + 1, ts, l, ks', r, hl, hk, h => by
    rw [threadsF] at h
    split at h
    · obtain ⟨rfl, _⟩ := ok_inj h
      exact ⟨ts, rfl, hk⟩
    · obtain ⟨q, hq, h⟩ := thenT_ok h
      obtain ⟨_, rfl⟩ := take_ok hq
      obtain ⟨b, q, hb, h⟩ := andT_ok h
      obtain ⟨b1, b2, b3, b4⟩ := (stmt_wf e n).2.1 0 l.tail b q (by omega) hl.tail hb
      rw [List.append_assoc] at h
      refine threads_wf gs n _ q ks' r b4 (fun y hy => ?_) h
      rcases List.mem_append.1 hy with hy | hy
      · exact hk y hy
      · obtain rfl : y = _ := by simpa using hy
        exact ⟨rfl, rfl, rfl, b, rfl, b1, b2, by omega⟩
/-- WHAT IS READ AS A PROGRAM IS ONE. -/
theorem prog_wf {n : Nat} {l r : List Tok} {ks : List Nd} (hl : ToksOk l) (h : progF e n l = some (.ok (ks, r))) : WfP ks := by
  unfold progF at h
  split at h
  · cases h
  · rename_i gs q hg
    obtain ⟨h1, h2⟩ := globals_wf _ _ _ _ _ hl (fun _ hx => by cases hx) hg
    obtain ⟨ts, rfl, h3⟩ := threads_wf gs n [] q ks r h2 (fun _ hx => by cases hx) (by simpa using h)
    exact ⟨gs, ts, rfl, h1, h3⟩
end
end

section
/-- What is a token, without its byte. -/
def TkOk (a : Tk) : Prop := (a.1 = 1 ∧ a.2.1 = 0 ∧ NameOk a.2.2) ∨ (a.1 = 2 ∧ a.2.1 = 0 ∧ isWord a.2.2 = true) ∨ (a.1 = 3 ∧ 0 ≤ a.2.1 ∧ a.2.1 ≤ 999999999 ∧ a.2.2 = Lib.decDigits a.2.1.toNat) ∨ (a.1 = 4 ∧ a.2.1 = 0 ∧ (a.2.2 ∈ twoL ∨ ∃ b, a.2.2 = [b] ∧ b ∈ oneS))
/-- May this byte (or the end) follow a token at once? -/
def folB (a : Tk) (r : List UInt8) : Prop :=
  if a.1 = 4 then signN (a.2.2 ++ r) = a.2.2.length else ∀ c, r.head? = some c → isNam c = false
/-- The token at a byte. -/
def tokAt (i : Nat) (a : Tk) : Tok := ⟨a.1, a.2.1, (i : Int), a.2.2⟩
theorem strip_at (i : Nat) (a : Tk) : strip (tokAt i a) = a := rfl

theorem takeWhile_stop (p : UInt8 → Bool) : ∀ (l r : List UInt8), l.all p = true → (∀ c, r.head? = some c → p c = false) → (l ++ r).takeWhile p = l
  | [], [], _, _ => rfl
  | [], c :: r, _, h => by rw [List.nil_append, List.takeWhile_cons_of_neg (by simp [h c rfl])]
  | b :: l, r, hl, h => by
    simp only [List.all_cons, Bool.and_eq_true] at hl
    rw [List.cons_append, List.takeWhile_cons_of_pos hl.1, takeWhile_stop p l r hl.2 h]
theorem dig_nam {c : UInt8} (h : isNam c = false) : isDig c = false := by
  simp only [isNam, Bool.or_eq_false_iff] at h; exact h.2
theorem word_letters {l : List UInt8} (h : isWord l = true) : ∃ b r, l = b :: r ∧ isLet b = true ∧ r.all isNam = true := by
  simp only [isWord, decide_eq_true_eq, wordsL, List.mem_cons, List.not_mem_nil, or_false] at h
  rcases h with rfl | rfl | rfl | rfl | rfl | rfl | rfl | rfl | rfl | rfl <;> exact ⟨_, _, rfl, by decide, by decide⟩
theorem dec_len (u : Nat) (h : u ≤ 999999999) : (Lib.decDigits u).length ≤ 9 := by
  rw [Lib.decDigits_length]
  have key : ∀ n u : Nat, u < 10 ^ n → 1 ≤ n → (Lib.decDigits u).length ≤ n := by
    intro n
    induction n with
    | zero => intro u _ h; omega
    | succ n ih =>
      intro u hu _
      rw [Lib.decDigits]
      split
      · simp
      · rename_i h10
        have h1 : u / 10 < 10 ^ n := by
          have : 10 ^ (n + 1) = 10 ^ n * 10 := Nat.pow_succ 10 n
          omega
        have h2 : 1 ≤ n := by
          rcases Nat.eq_zero_or_pos n with rfl | h
          · simp at h1; omega
          · exact h
        have := ih (u / 10) h1 h2
        simp only [List.length_append, List.length_cons, List.length_nil]
        omega
  have := key 9 u (by omega) (by omega)
  rw [Lib.decDigits_length] at this
  exact this
/-- A token is found where it stands, if what follows may. -/
theorem one_tok {a : Tk} (h : TkOk a) (r : List UInt8) (hr : folB a r) : oneL (a.2.2 ++ r) = some (a.1, a.2.1, a.2.2.length) ∧ (∃ b q, a.2.2 = b :: q ∧ canBe b = true ∧ isBlk b = false ∧ b.toNat ≠ 47) := by
  obtain ⟨k, v, t⟩ := a
  have letter : ∀ (b : UInt8) (q : List UInt8), t = b :: q → isLet b = true → q.all isNam = true → t.length ≤ 12 → k ≠ 4 → v = 0 → kindW t = k → oneL (t ++ r) = some (k, v, t.length) ∧ (∃ b q, t = b :: q ∧ canBe b = true ∧ isBlk b = false ∧ b.toNat ≠ 47) := fun b q ht hb hq hl hk hv hw => by
    subst ht
    have hf : ∀ c, r.head? = some c → isNam c = false := by
      have := hr
      unfold folB at this
      rw [if_neg (show ¬ k = 4 from hk)] at this
      exact this
    have htw := takeWhile_stop isNam q r hq hf
    refine ⟨?_, b, q, rfl, ?_, ?_, ?_⟩
    · rw [List.cons_append, oneL, if_pos hb, htw, if_neg (by simp only [List.length_cons] at hl; omega), hw, hv]
      simp only [List.length_cons, Nat.add_comm]
    · simp [isLet] at hb; simp [canBe, isBlk]; omega
    · simp [isLet] at hb; simp [isBlk]; omega
    · simp [isLet] at hb; omega
  rcases h with ⟨rfl, rfl, ⟨b, q, ht, hb, hq⟩, hl, hw⟩ | ⟨rfl, rfl, hw⟩ | ⟨rfl, h0, h9, ht⟩ | ⟨rfl, rfl, ht⟩
  · exact letter b q ht hb hq hl (by decide) rfl (by unfold kindW; rw [hw]; rfl)
  · obtain ⟨b, q, ht, hb, hq⟩ := word_letters hw
    have hw6 : t.length ≤ 6 := word_len hw
    exact letter b q ht hb hq (by omega) (by decide) rfl (by unfold kindW; rw [if_pos (show isWord t = true from hw)])
  · have hf : ∀ c, r.head? = some c → isDig c = false := fun c hc => by
      have := hr
      unfold folB at this
      rw [if_neg (show ¬ (3 : Int) = 4 by decide)] at this
      exact dig_nam (this c hc)
    have ht' : t = Lib.decDigits v.toNat := ht
    have h0' : 0 ≤ v := h0
    have h9' : v ≤ 999999999 := h9
    have hd := dec_digs v.toNat v.toNat (Nat.le_refl _)
    have hlen := dec_len v.toNat (by omega)
    rw [← ht'] at hd hlen
    obtain ⟨hd1, hd2, hd3, hd4⟩ := hd
    match t, hd1, hd2, hd3, hd4, hlen with
    | b :: q, hd1, _, hd3, hd4, hlen =>
      simp only [List.all_cons, Bool.and_eq_true] at hd1
      have hb2 : 48 ≤ b.toNat ∧ b.toNat ≤ 57 := by have := hd1.1; simp [isDig] at this; exact this
      have hnl : isLet b = false := by simp [isLet]; omega
      have htw := takeWhile_stop isDig q r hd1.2 hf
      refine ⟨?_, b, q, rfl, by simp [canBe, isBlk]; omega, by simp [isBlk]; omega, by omega⟩
      show oneL (b :: q ++ r) = _
      rw [List.cons_append, oneL, if_neg (by simp [hnl]), if_pos hd1.1, htw, if_neg ?_, hd3]
      · simp only [List.length_cons, Nat.add_comm]
        have : ((v.toNat : Nat) : Int) = v := by omega
        rw [this]
      · rintro (h | ⟨h, h48⟩)
        · simp only [List.length_cons] at hlen; omega
        · have hb48 : b = 48 := UInt8.toNat_inj.1 (by rw [h48]; rfl)
          have hv0 := hd4 (by simp [hb48])
          rw [hv0] at ht'
          rw [dec_zero] at ht'
          simp only [List.cons.injEq] at ht'
          rw [ht'.2] at h
          simp at h
  · have hs : signN (t ++ r) = t.length := by
      have := hr
      unfold folB at this
      rw [if_pos rfl] at this
      exact this
    have key : ∀ (b : UInt8) (q : List UInt8), t = b :: q → isLet b = false → isDig b = false → canBe b = true → isBlk b = false → b.toNat ≠ 47 → oneL (t ++ r) = some (4, 0, t.length) ∧ (∃ b q, t = b :: q ∧ canBe b = true ∧ isBlk b = false ∧ b.toNat ≠ 47) := fun b q ht h1 h2 h3 h4 h5 => by
      refine ⟨?_, b, q, ht, h3, h4, h5⟩
      rw [ht] at hs ⊢
      rw [List.cons_append] at hs ⊢
      rw [oneL, if_neg (by simp [h1]), if_neg (by simp [h2]), hs, if_neg (by simp)]
    have ht' : t ∈ twoL ∨ ∃ b, t = [b] ∧ b ∈ oneS := ht
    rcases ht' with h | ⟨b, hb, h⟩
    · simp only [twoL, List.mem_cons, List.not_mem_nil, or_false] at h
      rcases h with h | h | h | h | h | h <;> exact key _ _ h (by decide) (by decide) (by decide) (by decide) (by decide)
    · simp only [oneS, List.mem_cons, List.not_mem_nil, or_false] at h
      rcases h with h | h | h | h | h | h | h | h | h | h | h | h | h <;> exact key _ _ (by rw [hb, h]) (by decide) (by decide) (by decide) (by decide) (by decide)

/-- A blank byte is gone over. -/
theorem scan_blank {b : UInt8} (hb : isBlk b = true) (f i : Nat) (r : List UInt8) (acc : List Tok) : scanF f i (b :: r) acc = scanF f (i + 1) r acc := by
  cases f with
  | zero => rw [scanF, scanF]
  | succ f =>
    have hc : canBe b = true := by simp [canBe, hb]
    have hs : skipL false (b :: r) = ((skipL false r).1 + 1, (skipL false r).2) := by rw [skipL, if_neg (by simp [hc]), if_neg (by simp), if_pos hb]
    rw [scanF, scanF, hs]
    simp only [List.drop_succ_cons]
    have e1 : i + ((skipL false r).1 + 1) = i + 1 + (skipL false r).1 := by omega
    rw [e1]
/-- A token is found. -/
theorem scan_tok {a : Tk} (h : TkOk a) (f i : Nat) (r : List UInt8) (hr : folB a r) (acc : List Tok) : scanF (f + 1) i (a.2.2 ++ r) acc = scanF f (i + a.2.2.length) r (acc ++ [tokAt i a]) := by
  obtain ⟨ho, b, q, hb, hc, hk, h47⟩ := one_tok h r hr
  have hs : skipL false (a.2.2 ++ r) = (0, false) := by
    rw [hb, List.cons_append, skipL, if_neg (by simp [hc]), if_neg (by simp), if_neg (by simp [hk]), if_neg (fun h => h47 h.1)]
  rw [scanF, hs]
  simp only [Bool.false_eq_true, if_false, List.drop_zero, Nat.add_zero]
  rw [if_neg (by rw [hb]; simp), ho]
  simp only [List.drop_left, List.take_left]
  rfl

/-- Pieces of a text: a blank, a token. -/
inductive Pc where
  | b (c : UInt8)
  | t (a : Tk)
def pcB : Pc → List UInt8
  | .b c => [c]
  | .t a => a.2.2
def pcsB : List Pc → List UInt8
  | [] => []
  | x :: r => pcB x ++ pcsB r
def pcsT : List Pc → List Tk
  | [] => []
  | .b _ :: r => pcsT r
  | .t a :: r => a :: pcsT r
/-- Pieces that may stand so, s behind them. -/
def PcOk (s : List UInt8) : List Pc → Prop
  | [] => True
  | .b c :: r => isBlk c = true ∧ PcOk s r
  | .t a :: r => TkOk a ∧ folB a (pcsB r ++ s) ∧ PcOk s r
theorem pcsB_app : ∀ a b : List Pc, pcsB (a ++ b) = pcsB a ++ pcsB b
  | [], b => rfl
  | x :: r, b => by rw [List.cons_append, pcsB, pcsB, pcsB_app r b, List.append_assoc]
theorem pcsT_app : ∀ a b : List Pc, pcsT (a ++ b) = pcsT a ++ pcsT b
  | [], b => rfl
  | .b c :: r, b => by rw [List.cons_append, pcsT, pcsT, pcsT_app r b]
  | .t a :: r, b => by rw [List.cons_append, pcsT, pcsT, pcsT_app r b, List.cons_append]
theorem PcOk.app {s : List UInt8} : ∀ {a b : List Pc}, PcOk (pcsB b ++ s) a → PcOk s b → PcOk s (a ++ b)
  | [], b, _, hb => hb
  | .b c :: r, b, ha, hb => ⟨ha.1, PcOk.app ha.2 hb⟩
  | .t a :: r, b, ha, hb => ⟨ha.1, by show folB a (pcsB (r ++ b) ++ s); rw [pcsB_app, List.append_assoc]; exact ha.2.1, PcOk.app ha.2.2 hb⟩
/-- The tokens of pieces are found again. -/
theorem scan_pcs : ∀ (ps : List Pc), PcOk [] ps → ∀ (f i : Nat) (acc : List Tok), (pcsT ps).length < f → ∃ l, scanF f i (pcsB ps) acc = (acc ++ l, 0, 0) ∧ l.map strip = pcsT ps
  | [], _, f, i, acc, hf => by
    match f, hf with
    | f + 1, _ =>
      refine ⟨[], ?_, rfl⟩
      rw [pcsB, scanF]
      simp [skipL]
  | .b c :: r, h, f, i, acc, hf => by
    obtain ⟨l, h1, h2⟩ := scan_pcs r h.2 f (i + 1) acc hf
    refine ⟨l, ?_, h2⟩
    show scanF f i (c :: pcsB r) acc = _
    rw [scan_blank h.1]
    exact h1
  | .t a :: r, h, f, i, acc, hf => by
    match f, hf with
    | f + 1, hf =>
      have hfl := h.2.1
      rw [List.append_nil] at hfl
      obtain ⟨l, h1, h2⟩ := scan_pcs r h.2.2 f (i + a.2.2.length) (acc ++ [tokAt i a]) (by simp only [pcsT, List.length_cons] at hf; omega)
      refine ⟨tokAt i a :: l, ?_, by simp only [List.map_cons, strip_at, h2]; rfl⟩
      show scanF (f + 1) i (a.2.2 ++ pcsB r) acc = _
      rw [scan_tok h.1 f i _ hfl, h1]
      simp
end

end Go.Proofs.YtggfbfjdiikaeaaGreatDoor
