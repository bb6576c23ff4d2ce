/-
  Without orders that make what nobody needs: the runs come to the same.
  Constants are found just once: a second time nothing changes.
  All outcomes of a program, by the document: Make.
  What is told of a program with less to do: the same outcomes; and it may be.
-/
import Derived.Test.YtkailbdjilkneaaDoorSimC
import Derived.Test.YtkailbdjilkneaaDoorCOkP
import Derived.Test.YtkailbdjilkneaaDoorCheckA
import Derived.Test.YtkailbdjilkneaaDoorZBy2
namespace Go.Proofs.YtkailbdjilkneaaDoor
section
open Go.RowKit

/-- Registers that are live ahead of an order hold the same. -/
def AgL (X : Nat → Nat → Int) (l rg i : Nat) (rs rs' : List Int) : Prop := ∀ r, r < rg → Lv X l r i → rs.getD r 0 = rs'.getD r 0
section
variable {X : Nat → Nat → Int} {l rg m0 lk : Nat}
theorem AgL.read {i : Nat} {rs rs' : List Int} (h : AgL X l rg i rs rs') (hi : i < l) (ho : ordE rg m0 lk l (X i 0) (X i 1) (X i 2) (X i 3) = 0) {r : Int} (hr : r ∈ rdX X i) : rs.getD r.toNat 0 = rs'.getD r.toNat 0 := by
  have h1 := ok_rd ho r hr
  refine h r.toNat (by omega) (.read hi ?_)
  rw [Int.toNat_of_nonneg h1.1]
  exact hr
/-- Behind an order that sets a register. -/
theorem AgL.set {i p : Nat} {rs rs' : List Int} (h : AgL X l rg i rs rs') (hi : i < l) (hp : p ∈ nxP X i) {x v : Int} (hx : 0 ≤ x ∧ x < rg) (hw : wrX X i = x) (hl : rs.length = rg) (hl' : rs'.length = rg) : AgL X l rg p (rs.set x.toNat v) (rs'.set x.toNat v) := fun r hr hv => by
  rw [getD_setI (by omega), getD_setI (by omega)]
  by_cases e : r = x.toNat
  · rw [if_pos e, if_pos e]
  · rw [if_neg e, if_neg e]
    exact h r hr (.pass hi (by rw [hw]; omega) hp hv)
/-- Behind an order that sets none. -/
theorem AgL.on {i p : Nat} {rs rs' : List Int} (h : AgL X l rg i rs rs') (hi : i < l) (hp : p ∈ nxP X i) (hw : wrX X i = -1) : AgL X l rg p rs rs' := fun r hr hv => h r hr (.pass hi (by rw [hw]; omega) hp hv)
/-- An order makes of two threads whose live registers hold the same what stands together again. -/
theorem eff_agree {i : Nat} (hi : i < l) (ho : ordE rg m0 lk l (X i 0) (X i 1) (X i 2) (X i 3) = 0) {rs rs' : List Int} (hl : rs.length = rg) (hl' : rs'.length = rg) (h : AgL X l rg i rs rs') (rd : Int → Int) (fr : Int → Bool) (m : Nat) :
    EfR (fun p r p' r' => p' = p ∧ p ∈ nxP X i ∧ r.length = rg ∧ r'.length = rg ∧ AgL X l rg p r r') (effX (i + 1) rs rd fr m (X i 0) (X i 1) (X i 2) (X i 3)) (effX (i + 1) rs' rd fr m (X i 0) (X i 1) (X i 2) (X i 3)) := by
  have hrd := fun r hr => h.read (r := r) hi ho hr
  have hset := fun p (x v : Int) hp hx hw => h.set (p := p) (x := x) (v := v) hi hp hx hw hl hl'
  have hon := fun p hp hw => h.on (p := p) hi hp hw
  have hrx : rdX X i = rdL (X i 0) (X i 1) (X i 2) (X i 3) := rfl
  have hwx : wrX X i = wrL (X i 0) (X i 1) (X i 2) := rfl
  have hnx : nxP X i = nxL (X i 0) (X i 1) (X i 2) i := rfl
  rw [hrx] at hrd
  rw [hwx] at hset hon
  rw [hnx] at hset hon ⊢
  obtain ⟨op, hop⟩ : ∃ x, X i 0 = x := ⟨_, rfl⟩
  obtain ⟨a, ha⟩ : ∃ x, X i 1 = x := ⟨_, rfl⟩
  obtain ⟨b, hb⟩ : ∃ x, X i 2 = x := ⟨_, rfl⟩
  obtain ⟨c, hc⟩ : ∃ x, X i 3 = x := ⟨_, rfl⟩
  rw [hop, ha, hb, hc] at hrd ho ⊢
  rw [hop, ha, hb] at hset hon
  clear hop ha hb hc hrx hwx hnx
  have hr := ok_op ho
  have sl : ∀ (x : List Int) (q : Nat) (v : Int), x.length = rg → (x.set q v).length = rg := fun x q v h => by rw [List.length_set]; exact h
  unfold effX
  rcases (by omega : op = 1 ∨ op = 2 ∨ op = 3 ∨ op = 4 ∨ op = 5 ∨ op = 6 ∨ op = 7 ∨ op = 8 ∨ op = 9 ∨ op = 10 ∨ op = 11 ∨ op = 12 ∨ op = 13 ∨ op = 14 ∨ op = 15 ∨ op = 16 ∨ op = 17 ∨ op = 18) with rfl | rfl | rfl | rfl | rfl | rfl | rfl | rfl | rfl | rfl | rfl | rfl | rfl | rfl | rfl | rfl | rfl | rfl
  all_goals simp only [Int.reduceEq, ↓reduceIte]
  · exact ⟨rfl, rfl, by simp [nxL], sl _ _ _ hl, sl _ _ _ hl', hset _ a b (by simp [nxL]) (ok_const ho) rfl⟩
  · rw [hrd b (by simp [rdL])]
    exact ⟨rfl, rfl, by simp [nxL], sl _ _ _ hl, sl _ _ _ hl', hset _ a _ (by simp [nxL]) (ok_rr (by omega) ho).1 rfl⟩
  · rw [hrd b (by simp [rdL]), hrd c (by simp [rdL])]
    exact ⟨rfl, rfl, by simp [nxL], sl _ _ _ hl, sl _ _ _ hl', hset _ a _ (by simp [nxL]) (ok_rrr (by omega) ho).1 rfl⟩
  · rw [hrd b (by simp [rdL]), hrd c (by simp [rdL])]
    exact ⟨rfl, rfl, by simp [nxL], sl _ _ _ hl, sl _ _ _ hl', hset _ a _ (by simp [nxL]) (ok_rrr (by omega) ho).1 rfl⟩
  · rw [hrd b (by simp [rdL]), hrd c (by simp [rdL])]
    exact ⟨rfl, rfl, by simp [nxL], sl _ _ _ hl, sl _ _ _ hl', hset _ a _ (by simp [nxL]) (ok_rrr (by omega) ho).1 rfl⟩
  · have eb := hrd b (by simp [rdL])
    have ec := hrd c (by simp [rdL])
    simp only [eb, ec]
    exact ⟨rfl, rfl, by simp [nxL], sl _ _ _ hl, sl _ _ _ hl', hset _ a _ (by simp [nxL]) (ok_rrr (by omega) ho).1 rfl⟩
  · have eb := hrd b (by simp [rdL])
    have ec := hrd c (by simp [rdL])
    simp only [eb, ec]
    exact ⟨rfl, rfl, by simp [nxL], sl _ _ _ hl, sl _ _ _ hl', hset _ a _ (by simp [nxL]) (ok_rrr (by omega) ho).1 rfl⟩
  · exact ⟨rfl, rfl, by simp [nxL], sl _ _ _ hl, sl _ _ _ hl', hset _ a _ (by simp [nxL]) (ok_load ho).1 rfl⟩
  · rw [hrd b (by simp [rdL])]
    exact ⟨rfl, rfl, by simp [nxL], hl, hl', hon _ (by simp [nxL]) rfl⟩
  · rw [hrd b (by simp [rdL])]
    split
    · exact True.intro
    · exact ⟨rfl, rfl, by simp [nxL], sl _ _ _ hl, sl _ _ _ hl', hset _ a _ (by simp [nxL]) (ok_rr (by omega) ho).1 rfl⟩
  · rw [hrd a (by simp [rdL]), hrd b (by simp [rdL])]
    split
    · exact True.intro
    · exact ⟨rfl, rfl, by simp [nxL], hl, hl', hon _ (by simp [nxL]) rfl⟩
  · exact ⟨rfl, rfl, by simp [nxL], hl, hl', hon _ (by simp [nxL]) rfl⟩
  · rw [hrd b (by simp [rdL]), hrd c (by simp [rdL])]
    split
    · exact ⟨rfl, rfl, by simp [nxL], sl _ _ _ hl, sl _ _ _ hl', hset _ b _ (by simp [nxL]) (ok_cas ho).2.1 rfl⟩
    · exact ⟨rfl, rfl, by simp [nxL], sl _ _ _ hl, sl _ _ _ hl', hset _ b _ (by simp [nxL]) (ok_cas ho).2.1 rfl⟩
  · exact ⟨rfl, rfl, by simp [nxL], hl, hl', hon _ (by simp [nxL]) rfl⟩
  · have ea := hrd a (by simp [rdL])
    simp only [ea]
    split
    · exact ⟨rfl, rfl, by simp [nxL], hl, hl', hon _ (by simp [nxL]) rfl⟩
    · exact ⟨rfl, rfl, by simp [nxL], hl, hl', hon _ (by simp [nxL]) rfl⟩
  · rw [hrd a (by simp [rdL])]
    exact ⟨rfl, rfl, by simp [nxL], hl, hl', hon _ (by simp [nxL]) rfl⟩
  · exact ⟨rfl, rfl, by simp [nxL], hl, hl', hon _ (by simp [nxL]) rfl⟩
  · split
    · exact ⟨rfl, rfl, by simp [nxL], hl, hl', hon _ (by simp [nxL]) rfl⟩
    · exact True.intro
end
/-- Threads of the program and of the one without them, that stand together. -/
def QD (X : Nat → Nat → Nat → Int) (L : Nat → Nat) (rg : Nat) (D : Nat → Nat → Bool) (t i : Nat) (rs : List Int) (i' : Nat) (rs' : List Int) : Prop :=
  i ≤ L t ∧ i' = plR (bLess D X t) i ∧ rs.length = rg ∧ rs'.length = rg ∧ AgL (X t) (L t) rg i rs rs'
theorem dead_sim {n m lk rg : Nat} {L : Nat → Nat} {X : Nat → Nat → Nat → Int} (hc : COk n L X m lk rg) {D : Nat → Nat → Bool} (hD : ∀ t i, t < n → i < L t → D t i = true → deadO (X t) (L t) i) :
    SimT n L X (lenR (bLess D X) L) (numR (bLess D X) L) rg D (fun t i => L t - i) (QD X L rg D) := by
  have hk : ∀ t i, D t i = false → bLess D X t i = [(X t i 0, X t i 1, X t i 2, X t i 3)] := fun t i h => by unfold bLess bDrop; rw [h]; rfl
  have hg : ∀ t i, D t i = true → bLess D X t i = [] := fun t i h => by unfold bLess bDrop; rw [h]; rfl
  have hle : ∀ t i j, t < n → i < L t → j ∈ nxP (X t) i → j ≤ L t := fun t i j ht hi hj => ok_nx hi (hc.ord t i ht hi) j hj
  refine ⟨fun t ht => ⟨Nat.zero_le _, rfl, by simp, by simp, fun _ _ _ => rfl⟩, fun t rs i' rs' ht hq => ?_, fun t i rs i' rs' ht hq hi hd => ?_, fun t i rs i' rs' ht hlen hq hi hd => ?_, fun t i rs i' rs' ht hq hi hd => ?_, fun t i rs i' rs' ht hlen hq hi hd rd fr m' => ?_⟩
  · rw [hq.2.1]
    unfold lenR
    rw [code_len]
  · rw [hq.2.1]
    unfold lenR
    rw [code_len]
    exact pl_lt hi (hk t i hd)
  · obtain ⟨h18, hnl⟩ := hD t i ht hi hd
    have ho := hc.ord t i ht hi
    have hreg : 0 ≤ X t i 1 ∧ X t i 1 < rg := by
      rcases (by omega : X t i 0 = 1 ∨ X t i 0 = 2 ∨ X t i 0 = 3 ∨ X t i 0 = 4 ∨ X t i 0 = 5 ∨ X t i 0 = 6 ∨ X t i 0 = 7 ∨ X t i 0 = 8) with h2 | h2 | h2 | h2 | h2 | h2 | h2 | h2
      all_goals rw [h2] at ho
      · exact ok_const ho
      · exact (ok_rr (by omega) ho).1
      · exact (ok_rrr (by omega) ho).1
      · exact (ok_rrr (by omega) ho).1
      · exact (ok_rrr (by omega) ho).1
      · exact (ok_rrr (by omega) ho).1
      · exact (ok_rrr (by omega) ho).1
      · exact (ok_load ho).1
    have hwr : wrX (X t) i = X t i 1 := by
      unfold wrX wrL
      rw [if_pos (by omega)]
    have hnx : i + 1 ∈ nxP (X t) i := by
      unfold nxP nxL
      rw [if_neg (by omega), if_neg (by omega)]
      simp
    have hq1 : ∀ v, QD X L rg D t (i + 1) (rs.set (X t i 1).toNat v) i' rs' := fun v => by
      refine ⟨hi, by rw [pl_gone (hg t i hd)]; exact hq.2.1, by rw [List.length_set]; exact hq.2.2.1, hq.2.2.2.1, fun r hr hv => ?_⟩
      rw [getD_setI (by omega)]
      have hne : ¬ r = (X t i 1).toNat := fun e => hnl r (by omega) hv
      rw [if_neg hne]
      exact hq.2.2.2.2 r hr (.pass hi (by rw [hwr]; omega) hnx hv)
    refine ⟨?_, fun rd fr m' => ?_⟩
    · unfold abK
      rw [if_neg (by omega), if_neg (by omega), if_neg (by omega)]
    · have hx : ∃ v, effX (i + 1) rs rd fr m' (X t i 0) (X t i 1) (X t i 2) (X t i 3) = some (i + 1, rs.set (X t i 1).toNat v, .no) := by
        unfold effX
        rcases (by omega : X t i 0 = 1 ∨ X t i 0 = 2 ∨ X t i 0 = 3 ∨ X t i 0 = 4 ∨ X t i 0 = 5 ∨ X t i 0 = 6 ∨ X t i 0 = 7 ∨ X t i 0 = 8) with h2 | h2 | h2 | h2 | h2 | h2 | h2 | h2
        all_goals rw [h2]
        all_goals simp only [Int.reduceEq, ↓reduceIte]
        all_goals exact ⟨_, rfl⟩
      obtain ⟨v, hx⟩ := hx
      exact ⟨i + 1, _, hx, hq1 v, by omega⟩
  · rw [hq.2.1]
    obtain ⟨e0, e1, _, _⟩ := same_X1 (X := X t) (l := L t) (b := bLess D X t) hi (hk t i hd)
    have hnum : ∀ q, numR (bLess D X) L t (plR (bLess D X t) i) q = X1 (bLess D X t) (L t) (plR (bLess D X t) i) q := fun _ => rfl
    rw [hnum, hnum, e0, e1]
    exact ⟨rfl, fun h => by rw [if_neg (by omega)]⟩
  · have hmv : MovO (plR (bLess D X t)) (X t i 0) (X t i 1) (X t i 2) (X t i 3) (numR (bLess D X) L t (plR (bLess D X t) i) 0) (numR (bLess D X) L t (plR (bLess D X t) i) 1) (numR (bLess D X) L t (plR (bLess D X t) i) 2) (numR (bLess D X) L t (plR (bLess D X t) i) 3) := by
      obtain ⟨e0, e1, e2, e3⟩ := same_X1 (X := X t) (l := L t) (b := bLess D X t) hi (hk t i hd)
      exact ⟨e0, e1, e2, e3⟩
    have hmm := eff_mov hmv (i + 1) rs' rd fr m'
    rw [pl_kept (b := bLess D X t) (hk t i hd)] at hmm
    rw [hq.2.1, hmm]
    have hag := eff_agree (X := X t) hi (hc.ord t i ht hi) hq.2.2.1 hq.2.2.2.1 hq.2.2.2.2 rd fr m'
    cases h1 : effX (i + 1) rs rd fr m' (X t i 0) (X t i 1) (X t i 2) (X t i 3) with
    | none =>
      rw [h1] at hag
      cases h2 : effX (i + 1) rs' rd fr m' (X t i 0) (X t i 1) (X t i 2) (X t i 3) with
      | none => exact True.intro
      | some y => rw [h2] at hag; exact absurd hag id
    | some x =>
      obtain ⟨p, r, k⟩ := x
      rw [h1] at hag
      cases h2 : effX (i + 1) rs' rd fr m' (X t i 0) (X t i 1) (X t i 2) (X t i 3) with
      | none => rw [h2] at hag; exact absurd hag id
      | some y =>
        obtain ⟨p', r', k'⟩ := y
        rw [h2] at hag
        obtain ⟨rfl, rfl, hp, l1, l2, hA⟩ := hag
        exact ⟨rfl, hle t i _ ht hi hp, rfl, l1, l2, hA⟩
end

section
open Go.RowKit

theorem mk_const {rg m lk sz a n : Int} (h : 0 ≤ a ∧ a < rg) : ordE rg m lk sz 1 a n 0 = 0 := by
  unfold ordE
  simp only [kd, ↓reduceIte]
  have h1 : okN rg m lk sz 1 a = true := by unfold okN lim; simp [h.1, h.2]
  have h2 : okN rg m lk sz 5 n = true := rfl
  have h3 : okN rg m lk sz 0 0 = true := rfl
  rw [h1, h2, h3]
  rfl
theorem mk_jump {rg m lk sz a : Int} (h : 0 ≤ a ∧ a ≤ sz) : ordE rg m lk sz 14 a 0 0 = 0 := by
  unfold ordE
  simp only [kd, Int.reduceEq, ↓reduceIte]
  have h1 : okN rg m lk sz 4 a = true := by unfold okN lim; simp; omega
  have h3 : okN rg m lk sz 0 0 = true := rfl
  rw [h1, h3]
  rfl
/-- What an order becomes may be. -/
theorem bCon_ok {rg m lk sz : Nat} {X : Nat → Nat → Int} {i : Nat} {e : Nat → Vl} (ho : ordE rg m lk sz (X i 0) (X i 1) (X i 2) (X i 3) = 0) : ∀ x, x ∈ bConX X i e → ordE rg m lk sz x.1 x.2.1 x.2.2.1 x.2.2.2 = 0 := fun x hx => by
  by_cases hg : e 0 = .no
  · unfold bConX at hx
    rw [if_pos hg] at hx
    cases hx
  · rcases con_cases (X := X) (i := i) hg with ⟨h15, _, h1⟩ | ⟨_, _, h1⟩ | ⟨h27, n, _, h1⟩ | ⟨h1, _⟩
    · rw [h1, List.mem_singleton] at hx
      subst hx
      rw [h15] at ho
      exact mk_jump (ok_zero ho).2
    · rw [h1] at hx
      cases hx
    · rw [h1, List.mem_singleton] at hx
      subst hx
      refine mk_const ?_
      by_cases h2 : X i 0 = 2
      · rw [h2] at ho
        exact (ok_rr (by omega) ho).1
      · exact (ok_rrr (by omega) ho).1
    · rw [h1, List.mem_singleton] at hx
      subst hx
      exact ho
section
variable {X : Nat → Nat → Int} {l rg m lk : Nat} {E E1 : Nat → Nat → Vl} {b : Nat → List I4}
end

section
variable {n m lk rg : Nat} {L : Nat → Nat} {X : Nat → Nat → Nat → Int}
theorem bCon_in (hc : COk n L X m lk rg) (E : Nat → Nat → Nat → Vl) : ∀ t i, t < n → i < L t → ∀ x, x ∈ bCon X E t i → ordE rg m lk (L t) x.1 x.2.1 x.2.2.1 x.2.2.2 = 0 := fun t i ht hi x hx => bCon_ok (X := X t) (hc.ord t i ht hi) x hx
theorem bCon_one (X : Nat → Nat → Nat → Int) (E : Nat → Nat → Nat → Vl) (t i : Nat) : (bCon X E t i).length ≤ 1 := bConX_len _ _ _
end
end

section
open Go.RowKit

theorem ens_osin {w : World} {a : Option Addr} {es : List En} (h : EIn w a es) (hok : ∀ x, x ∈ es → EnOk w x) : OsIn w a (es.map En.o) := fun i hi => by
  have hi' : i < es.length := by simpa using hi
  obtain ⟨b, o, h1, h2, h3, h4⟩ := h i hi'
  have hx := hok _ (show es.getD i default ∈ es by rw [List.getD_eq_getElem?_getD, List.getElem?_eq_getElem hi']; exact List.getElem_mem hi')
  rw [map_getD hi']
  exact ⟨b, o, _, _, _, _, h1, h2, h3, h4, hx.ws, hx.pr⟩
theorem ens_obd {w : World} {es : List En} (hn : es.length ≤ 100000) (hok : ∀ x, x ∈ es → EnOk w x) : OBd (es.map En.o) := by
  refine ⟨by simpa using hn, fun o ho => ?_⟩
  obtain ⟨x, hx, rfl⟩ := List.mem_map.mp ho
  exact ⟨(hok x hx).wl, (hok x hx).pl⟩
/-- What Make tells. -/
def MakeQ (w : World) (L : Nat → Nat) (X : Nat → Nat → Nat → Int) (mode : Int) (s0 : Sx) (e : Ending) (w' : World) : Prop :=
  ∃ pb full ea ec l, e = .returned (.pointer (some ⟨pb, 0, none⟩)) ∧ Told (nxX L X mode) (outsX L X mode) s0 4000 full l ∧ w'.cell? ⟨pb, 4, none⟩ = some (.slice ea l.length ec) ∧ w'.cell? ⟨pb, 5, none⟩ = some (.bool full) ∧ OsIn w' ea l ∧ OBd l ∧ Below w.heap.size w w'
/-- What Make tells, with where the outcomes' lists lie. -/
def MakeE (w : World) (L : Nat → Nat) (X : Nat → Nat → Nat → Int) (mode : Int) (s0 : Sx) (e : Ending) (w' : World) : Prop :=
  ∃ pb full ea ec es, e = .returned (.pointer (some ⟨pb, 0, none⟩)) ∧ Told (nxX L X mode) (outsX L X mode) s0 4000 full (es.map En.o) ∧ w'.cell? ⟨pb, 4, none⟩ = some (.slice ea es.length ec) ∧ w'.cell? ⟨pb, 5, none⟩ = some (.bool full) ∧ EIn w' ea es ∧ (∀ x, x ∈ es → EnOk w' x ∧ x.o.ws.length ≤ x.wc) ∧ es.length ≤ 100000 ∧ Below w.heap.size w w'
theorem MakeE.q {w : World} {L : Nat → Nat} {X : Nat → Nat → Nat → Int} {mode : Int} {s0 : Sx} {e : Ending} {w' : World} (h : MakeE w L X mode s0 e w') : MakeQ w L X mode s0 e w' := by
  obtain ⟨pb, full, ea, ec, es, h1, h2, h3, h4, h5, h6, h7, h8⟩ := h
  exact ⟨pb, full, ea, ec, es.map En.o, h1, h2, by rw [List.length_map]; exact h3, h4, ens_osin h5 (fun x hx => (h6 x hx).1), ens_obd (w := w') h7 (fun x hx => (h6 x hx).1), h8⟩
/-- What By tells, as Make tells it. -/
theorem by_toldE (w : World) (ca : Option Addr) (n cc : Nat) (wa : Option Addr) (wc lk rg : Nat) (mode : Int) (words : List Int) (A : Nat → Option Addr) (L C : Nat → Nat) (X : Nat → Nat → Nat → Int) (hw : SIs w wa words) (hn0 : 0 < n) (hc : COk n L X words.length lk rg) (hp : PIn w ca n A L C X) (hm : 0 ≤ mode) :
    Calls Tryd.prog 43 #[prgV ca n cc wa words.length wc lk rg, .int .i64 mode] w (MakeE w L X mode (beginX n words lk rg)) := by
  obtain ⟨c, hcd⟩ : ∃ c : Bc, c = ⟨⟨ca, n, cc, wa, words.length, wc, lk, rg, mode⟩, A, L, C, X, words.length, lk, rg, beginX n words lk rg⟩ := ⟨_, rfl⟩
  have hok : BcOk c w := by rw [hcd]; exact ⟨hn0, hc, hp, hm⟩
  refine Calls.mono (by_any w ca n cc wa wc lk rg mode words A L C X c _ hcd rfl hw hok) ?_
  rintro e w' ⟨pb, v, d, ea, ec, es, i, N, rfl, h1, h2, h3⟩
  have ht := (h1.told h3).1
  have hcnt := h1.cnt
  have c4 := h1.sp.c4
  have c5 := h1.sp.c5
  rw [h1.ends] at c4
  have hlow := h1.low
  have hb0 : Below w.heap.size w (w.alloc (boxQ ca n cc wa words.length wc lk rg)) := (Below.refl _ _).alloc (Nat.le_refl _) _
  rw [hcd] at ht
  exact ⟨pb, d.full, ea, ec, es, rfl, ht, c4, c5, h1.ein.ein, fun x hx => ⟨(h1.eok x hx).ok, (h1.eok x hx).cap⟩, by omega, hb0.trans (hlow.mono (by simp))⟩
set_option maxRecDepth 100000 in
set_option maxHeartbeats 800000 in
/-- Make. -/
theorem make_anyE (w : World) (b : Bool) (ca : Option Addr) (n cc : Nat) (wa : Option Addr) (wc lk rg : Nat) (words : List Int) (A : Nat → Option Addr) (L C : Nat → Nat) (X : Nat → Nat → Nat → Int) (hw : SIs w wa words) (hn0 : 0 < n) (hc : COk n L X words.length lk rg) (hp : PIn w ca n A L C X) :
    Calls Tryd.prog 17 #[prgV ca n cc wa words.length wc lk rg, .bool b] w (MakeE w L X (if b then 1 else 0) (beginX n words lk rg)) := by
  have HBY : Hid (∀ V mode, 0 ≤ mode → Below w.heap.size w V → Calls Tryd.prog 43 #[prgV ca n cc wa words.length wc lk rg, .int .i64 mode] V (MakeE V L X mode (beginX n words lk rg))) := fun V mode hm hb => by
    exact by_toldE V ca n cc wa wc lk rg mode words A L C X (hw.below hb) hn0 hc (hp.below hb) hm
  have HUP : Hid (∀ V mode e w', Below w.heap.size w V → MakeE V L X mode (beginX n words lk rg) e w' → MakeE w L X mode (beginX n words lk rg) e w') := fun V mode e w' hb ⟨pb, full, ea, ec, l, h1, h2, h3, h4, h5, h6, h7, h8⟩ => ⟨pb, full, ea, ec, l, h1, h2, h3, h4, h5, h6, h7, hb.trans (h8.mono hb.size)⟩
  obtain ⟨q, hq⟩ : ∃ q : Sx, beginX n words lk rg = q := ⟨_, rfl⟩
  obtain ⟨m, hm⟩ : ∃ m, words.length = m := ⟨_, rfl⟩
  rw [hq, hm] at HBY ⊢
  rw [hq] at HUP
  have HBB : Hid (∀ o, Below w.heap.size w (w.alloc o)) := fun o => (Below.refl _ _).alloc (Nat.le_refl _) _
  clear hw hn0 hc hp hq hm
  cases b with
  | true =>
    go_enter Tryd.func17, Tryd.ntmps17
    go_wp2_with fail
    refine Calls.mono (HBY.out _ 1 (by decide) (HBB.out _)) ?_
    intro e w1 h1
    have h2 := HUP.out _ _ _ _ (HBB.out _) h1
    obtain ⟨pb, full, ea, ec, l, rfl, h3⟩ := h2
    have H3 := Hid.out (p := Hid _) h3
    clear h1 h3
    go_wp2_with fail
    go_ret
    exact ⟨pb, full, ea, ec, l, rfl, H3.out⟩
  | false =>
    go_enter Tryd.func17, Tryd.ntmps17
    go_wp2_with fail
    refine Calls.mono (HBY.out _ 0 (by decide) (HBB.out _)) ?_
    intro e w1 h1
    have h2 := HUP.out _ _ _ _ (HBB.out _) h1
    obtain ⟨pb, full, ea, ec, l, rfl, h3⟩ := h2
    have H3 := Hid.out (p := Hid _) h3
    clear h1 h3
    go_wp2_with fail
    go_ret
    exact ⟨pb, full, ea, ec, l, rfl, H3.out⟩

theorem make_any (w : World) (b : Bool) (ca : Option Addr) (n cc : Nat) (wa : Option Addr) (wc lk rg : Nat) (words : List Int) (A : Nat → Option Addr) (L C : Nat → Nat) (X : Nat → Nat → Nat → Int) (hw : SIs w wa words) (hn0 : 0 < n) (hc : COk n L X words.length lk rg) (hp : PIn w ca n A L C X) :
    Calls Tryd.prog 17 #[prgV ca n cc wa words.length wc lk rg, .bool b] w (MakeQ w L X (if b then 1 else 0) (beginX n words lk rg)) := (make_anyE w b ca n cc wa wc lk rg words A L C X hw hn0 hc hp).mono fun _ _ h => h.q
end

section
open Go.RowKit

theorem begin_at (n : Nat) (words : List Int) (lk rg : Nat) (t : Nat) (ht : t < n) : thOf (beginX n words (lk : Int) (rg : Int)) t = ⟨0, List.replicate rg 0, []⟩ := by
  unfold thOf beginX
  simp [List.getD, ht]
section
variable {n m lk rg : Nat} {L : Nat → Nat} {X : Nat → Nat → Nat → Int}
end
/-- What is told of two programs that stand together. -/
theorem sim_same {n : Nat} {L L' : Nat → Nat} {X X' : Nat → Nat → Nat → Int} {words : List Int} {lk rg : Nat} {a b : List Oc} {mx : Nat} {mode : Int} {D : Nat → Nat → Bool} {mu : Nat → Nat → Nat} {Q : Nat → Nat → List Int → Nat → List Int → Prop} (hR : SimT n L X L' X' rg D mu Q) (hm : 0 ≤ mode) (hc : COk n L X words.length lk rg) (ha : Told (nxX L X mode) (outsX L X mode) (beginX n words lk rg) mx false a) (hb : Told (nxX L' X' mode) (outsX L' X' mode) (beginX n words lk rg) mx false b) : a = b := by
  rcases ha with ⟨e, _⟩ | ⟨_, sa, ma, _⟩
  · cases e
  rcases hb with ⟨e, _⟩ | ⟨_, sb, mb, _⟩
  · cases e
  refine sorted_same sa sb fun o => ?_
  rw [ma, mb]
  constructor
  · rintro ⟨s, h1, h2⟩
    exact sim_out hR hc hm begin_ok rfl (begin_at n words lk rg) h1 h2
  · rintro ⟨s, h1, h2⟩
    exact sim_back hR hc hm begin_ok rfl (begin_at n words lk rg) h1 h2
end

end Go.Proofs.YtkailbdjilkneaaDoor
