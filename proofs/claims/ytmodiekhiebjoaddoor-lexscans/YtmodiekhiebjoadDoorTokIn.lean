/-
  Tokens in memory, and lists of them that are made.
-/
import Derived.Test.YtmodiekhiebjoadDoorLexP
import Derived.Test.YtmodiekhiebjoadDoorFam
namespace Go.Proofs.YtmodiekhiebjoadDoor
open Go.RowKit

def tokC (t : Tok) : List Value := [.int .i64 t.kind, .int .i64 t.num, .int .i64 t.pos, .string ⟨⟨t.text⟩⟩]
def toksV (l : List Tok) : List Value := l.flatMap tokC
theorem toksV_len (l : List Tok) : (toksV l).length = l.length * 4 := by
  induction l with
  | nil => rfl
  | cons x r ih => simp [toksV, tokC] at ih ⊢; omega
theorem toksV_snoc (l : List Tok) (t : Tok) : toksV (l ++ [t]) = toksV l ++ tokC t := by simp [toksV]
/-- A token that is nothing. -/
def tok0 : Tok := ⟨0, 0, 0, []⟩
theorem toksV_at : ∀ {l : List Tok} {i : Nat}, i < l.length → (toksV l)[i * 4]? = some (.int .i64 (l.getD i tok0).kind) ∧ (toksV l)[i * 4 + 1]? = some (.int .i64 (l.getD i tok0).num) ∧ (toksV l)[i * 4 + 2]? = some (.int .i64 (l.getD i tok0).pos) ∧ (toksV l)[i * 4 + 3]? = some (.string ⟨⟨(l.getD i tok0).text⟩⟩)
  | [], i, h => absurd h (Nat.not_lt_zero _)
  | x :: l, 0, _ => ⟨rfl, rfl, rfl, rfl⟩
  | x :: l, i + 1, h => by
    have := toksV_at (l := l) (i := i) (by simpa using h)
    have e : ∀ k, (toksV (x :: l))[(i + 1) * 4 + k]? = (toksV l)[i * 4 + k]? := fun k => by
      rw [show (i + 1) * 4 + k = (i * 4 + k) + 4 by omega]
      rfl
    have e0 := e 0
    rw [Nat.add_zero, Nat.add_zero] at e0
    rw [e0, e 1, e 2, e 3]
    exact this
/-- A list of tokens that was made. -/
def OwnT (w : World) (B : Nat) (v : Value) (l : List Tok) : Prop := w.ownsRow B 29 4 v l.length (toksV l)
theorem OwnT.below {w w' : World} {B : Nat} {v : Value} {l : List Tok} (h : OwnT w B v l) (hb : Below w.heap.size w w') : OwnT w' B v l := owns_below2 h hb
theorem ownT_nil (w : World) (B : Nat) : OwnT w B nilV [] := World.ownsRow_nil _ _ _ _
theorem OwnT.form {w : World} {B : Nat} {v : Value} {l : List Tok} (h : OwnT w B v l) : ∃ a c, v = .slice a l.length c := fam_form h
theorem OwnT.cells {w : World} {B : Nat} {a : Option Addr} {c : Nat} {l : List Tok} (h : OwnT w B (.slice a l.length c) l) {k : Nat} (hk : k < l.length) :
    ∃ g, a = some ⟨g, 0, none⟩ ∧ w.cell? ⟨g, k * 4, none⟩ = some (.int .i64 (l.getD k tok0).kind) ∧ w.cell? ⟨g, k * 4 + 1, none⟩ = some (.int .i64 (l.getD k tok0).num) ∧ w.cell? ⟨g, k * 4 + 2, none⟩ = some (.int .i64 (l.getD k tok0).pos) ∧ w.cell? ⟨g, k * 4 + 3, none⟩ = some (.string ⟨⟨(l.getD k tok0).text⟩⟩) := by
  obtain ⟨g, cap, e, hg, _⟩ := fam_block h (by omega)
  simp only [Value.slice.injEq] at e
  have hat := toksV_at hk
  exact ⟨g, e.1, fam_cell h hg hat.1, fam_cell h hg hat.2.1, fam_cell h hg hat.2.2.1, fam_cell h hg hat.2.2.2⟩
theorem infoTok : (Tryd.prog.info? 29).map (fun i => (i.zero, i.size, i.bytes)) = some (some (.agg #[.int .i64 0, .int .i64 0, .int .i64 0, .string ⟨#[]⟩]), 4, 40) := by kernel_rfl
/-- One more token. -/
theorem app_tok {w W : World} {B : Nat} {v : Value} {l : List Tok} (h : OwnT w B v l) (hb : Below w.heap.size w W) (hB : B ≤ w.heap.size) (t : Tok) (hl : l.length ≤ 100000) :
    ∃ g cap w3, (AppS #[22, 22] 22 #[v, .slice (some ⟨W.heap.size, 0, none⟩) 1 1]).run Tryd.prog (W.alloc (.cells #[.int .i64 t.kind, .int .i64 t.num, .int .i64 t.pos, .string ⟨⟨t.text⟩⟩] 29)) = .ok (.slice (some ⟨g, 0, none⟩) (l.length + 1) cap) w3 ∧ OwnT w3 B (.slice (some ⟨g, 0, none⟩) (l.length + 1) cap) (l ++ [t]) ∧ (W.alloc (.cells #[.int .i64 t.kind, .int .i64 t.num, .int .i64 t.pos, .string ⟨⟨t.text⟩⟩] 29)).grownBy w3 v.ownBlock := by
  obtain ⟨g, cap, w3, r1, r2, r3, r4⟩ := app_row (T := 22) Tryd.underlying22 infoTok rfl (by omega) h hb hB 1 #[.int .i64 t.kind, .int .i64 t.num, .int .i64 t.pos, .string ⟨⟨t.text⟩⟩] rfl (by simp [Value.oneCell']) (by omega) (by omega) (by omega)
  refine ⟨g, cap, w3, r1, ?_, r3⟩
  unfold OwnT
  rw [List.length_append, toksV_snoc]
  exact r2
theorem app_tok_below {w W w3 : World} {B : Nat} {v : Value} {l : List Tok} {o : Obj} (h : OwnT w B v l) (hb : Below w.heap.size w W) (hg : (W.alloc o).grownBy w3 v.ownBlock) (hB : B ≤ w.heap.size) {S : World} (hS : Below B S W) : Below B S w3 := by
  have hs := hb.size
  exact (hS.alloc (by omega) o).grown hg (by simp; omega) (fun k hk => (h.lt k hk).1)

end Go.Proofs.YtmodiekhiebjoadDoor
