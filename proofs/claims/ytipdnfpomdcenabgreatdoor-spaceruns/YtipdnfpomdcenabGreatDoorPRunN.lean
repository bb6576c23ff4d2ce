/-
  All that can be come to, gone through by the kernel: what is told of it.
  The program's Run of a program that Check does not let pass.
  The program of two threads that the statements run by themselves.
  What two threads come to, each of which stores into a word of its own and loads the other one's, without and with stores that wait.
  The program's Run of a program that passed Check.
-/
import Derived.Test.YtipdnfpomdcenabGreatDoorRunP
import Derived.Test.YtipdnfpomdcenabGreatDoorPRun2
import Derived.Test.YtipdnfpomdcenabGreatDoorCheckA
import Derived.Test.YtipdnfpomdcenabGreatDoorRDoW
import Derived.Test.YtipdnfpomdcenabGreatDoorSpaceP
import Derived.Test.YtipdnfpomdcenabGreatDoorPNew
namespace Go.Proofs.YtipdnfpomdcenabGreatDoor
section
open Go.RowKit

section
variable {S : Type} [DecidableEq S]
/-- All that can be come to, gone through: what is still to be looked at, what is known. -/
def goK (nx : S → List S) : Nat → List S → List S → List S
  | 0, _, k => k
  | _ + 1, [], k => k
  | f + 1, s :: r, k =>
    let new := (nx s).foldl (fun l t => if t ∈ k ∨ t ∈ l then l else l ++ [t]) []
    goK nx f (r ++ new) (k ++ new)
theorem new_mem {k : List S} : ∀ {l a : List S} {x : S}, x ∈ l.foldl (fun l t => if t ∈ k ∨ t ∈ l then l else l ++ [t]) a → x ∈ a ∨ x ∈ l
  | [], a, x, h => Or.inl h
  | b :: l, a, x, h => by
    rw [List.foldl_cons] at h
    rcases new_mem h with h1 | h1
    · split at h1
      · exact Or.inl h1
      · rw [List.mem_append] at h1
        rcases h1 with h1 | h1
        · exact Or.inl h1
        · rw [List.mem_singleton.mp h1]; exact Or.inr (by simp)
    · exact Or.inr (by simp [h1])
theorem go_reach {nx : S → List S} {s0 : S} : ∀ {f : Nat} {r k : List S}, (∀ s, s ∈ r → Rch nx s0 s) → (∀ s, s ∈ k → Rch nx s0 s) → ∀ s, s ∈ goK nx f r k → Rch nx s0 s
  | 0, _, _, _, h2 => h2
  | _ + 1, [], _, _, h2 => h2
  | f + 1, s :: r, k, h1, h2 => by
    have hn : ∀ x, x ∈ (nx s).foldl (fun l t => if t ∈ k ∨ t ∈ l then l else l ++ [t]) [] → Rch nx s0 x := fun x hx => by
      rcases new_mem hx with h | h
      · cases h
      · exact (h1 s (by simp)).step h
    refine go_reach (f := f) (fun x hx => ?_) (fun x hx => ?_)
    · rw [List.mem_append] at hx
      exact hx.elim (fun h => h1 x (by simp [h])) (hn x)
    · rw [List.mem_append] at hx
      exact hx.elim (h2 x) (hn x)
def closedK (nx : S → List S) (k : List S) : Bool := k.all fun s => (nx s).all fun t => decide (t ∈ k)
theorem nodup_of : ∀ l : List S, ∃ r : List S, r.Nodup ∧ (∀ x, x ∈ r ↔ x ∈ l) ∧ r.length ≤ l.length
  | [] => ⟨[], List.nodup_nil, fun _ => Iff.rfl, Nat.le_refl _⟩
  | a :: l => by
    obtain ⟨r, h1, h2, h3⟩ := nodup_of l
    by_cases h : a ∈ r
    · exact ⟨r, h1, fun x => by rw [h2, List.mem_cons]; exact ⟨Or.inr, fun e => e.elim (fun e => by rw [e]; exact (h2 a).mp h) id⟩, by simp; omega⟩
    · exact ⟨a :: r, List.nodup_cons.mpr ⟨h, h1⟩, fun x => by rw [List.mem_cons, List.mem_cons, h2], by simp; omega⟩
theorem go_more {nx : S → List S} {s : S} : ∀ {f : Nat} {r k : List S}, s ∈ k → s ∈ goK nx f r k
  | 0, _, _, h => h
  | _ + 1, [], _, h => h
  | f + 1, _ :: _, _, h => go_more (f := f) (List.mem_append.mpr (Or.inl h))
/-- What is told where all was gone through. -/
theorem told_of {nx : S → List S} {outs : S → List Oc} {s0 : S} {mx f : Nat} (hcl : closedK nx (goK nx f [s0] [s0]) = true) (hk : (goK nx f [s0] [s0]).length ≤ mx) : Told nx outs s0 mx false (((goK nx f [s0] [s0]).flatMap outs).foldr insO []) := by
  have hr : ∀ s, s ∈ goK nx f [s0] [s0] → Rch nx s0 s := go_reach (fun x hx => by rw [List.mem_singleton.mp hx]; exact .base) (fun x hx => by rw [List.mem_singleton.mp hx]; exact .base)
  have hall : ∀ s, Rch nx s0 s → s ∈ goK nx f [s0] [s0] := fun s hs => by
    induction hs with
    | base => exact go_more (by simp)
    | step _ ht ih =>
      unfold closedK at hcl
      rw [List.all_eq_true] at hcl
      have := hcl _ ih
      rw [List.all_eq_true] at this
      simpa using this _ ht
  obtain ⟨r, n1, n2, n3⟩ := nodup_of (goK nx f [s0] [s0])
  refine Or.inr ⟨rfl, ?_, fun o => ?_, r, n1, fun s => (n2 s).trans ⟨hr s, hall s⟩, by omega⟩
  · have : ∀ l : List Oc, SortedO (l.foldr insO []) := fun l => by
      induction l with
      | nil => exact List.Pairwise.nil
      | cons a l ih => exact sorted_insO ih
    exact this _
  · have : ∀ l : List Oc, o ∈ l.foldr insO [] ↔ o ∈ l := fun l => by
      induction l with
      | nil => exact Iff.rfl
      | cons a l ih => rw [List.foldr_cons, mem_insO, ih, List.mem_cons]
    rw [this, List.mem_flatMap]
    exact ⟨fun ⟨s, h1, h2⟩ => ⟨s, hr s h1, h2⟩, fun ⟨s, h1, h2⟩ => ⟨s, hall s h1, h2⟩⟩
end
end

section
open Go.RowKit

theorem res_two {w w1 : World} {a b c : Obj} (hb : Below (((w.alloc a).alloc b).alloc c).heap.size (((w.alloc a).alloc b).alloc c) w1) : w1.heap[w.heap.size + 1]? = some b ∧ w1.heap[w.heap.size + 1 + 1]? = some c := by
  have e1 : ((w.alloc a).alloc b).heap[w.heap.size + 1]? = some b := by
    have := heap_alloc_new (w.alloc a) b
    rwa [World.size_alloc] at this
  have e2 : (((w.alloc a).alloc b).alloc c).heap[w.heap.size + 1 + 1]? = some c := by
    have := heap_alloc_new ((w.alloc a).alloc b) c
    rwa [World.size_alloc, World.size_alloc] at this
  have e3 : (((w.alloc a).alloc b).alloc c).heap[w.heap.size + 1]? = some b := ((Below.refl ((w.alloc a).alloc b).heap.size _).alloc (Nat.le_refl _) c).block _ (by simp) |>.trans e1
  exact ⟨(hb.block _ (by simp)).trans e3, (hb.block _ (by simp)).trans e2⟩
end

section
open Go.RowKit

def bufT (t : Nat) : List Int := if t = 0 then [1, 0, 1, 0, 9, 0, 0, 0, 8, 1, 1, 0, 16, 1, 0, 0] else [1, 0, 1, 0, 9, 1, 0, 0, 8, 1, 0, 0, 16, 1, 0, 0]
def bufL : Nat → Nat := fun _ => 4
def bufX : Nat → Nat → Nat → Int := fun t i q => (bufT t).getD (i * 4 + q) 0
def bufA (b : Nat) : Nat → Option Addr := fun t => some ⟨b + 1 + t, 0, none⟩
theorem buf_cell {t i q : Nat} (hi : i < 4) (hq : q < 4) : (intsV (bufT t)).toArray[i * 4 + q]? = some (.int .i64 (bufX t i q)) := by
  have hl : (bufT t).length = 16 := by unfold bufT; split <;> rfl
  have h := intsV_at (l := bufT t) (i := i * 4 + q) (by rw [hl]; omega)
  simpa [bufX] using h
/-- Where the two threads' program lies. -/
structure IsBuf (d : Nat) (w w' : World) : Prop where
  prog : PIn w' (some ⟨d + 3, 0, none⟩) 2 (bufA d) bufL (fun _ => 4) bufX
  words : SIs w' (some ⟨d + 4, 0, none⟩) [0, 0]
  below : Below w.heap.size w w'
  size : d + 5 ≤ w'.heap.size
set_option maxRecDepth 100000 in
set_option maxHeartbeats 1600000 in
theorem buffers_any (w : World) (d : Nat) (hd : w.heap.size = d) : Calls Tryz.prog 15 #[] w fun e w' => e = .returned (prgV (some ⟨d + 3, 0, none⟩) 2 2 (some ⟨d + 4, 0, none⟩) 2 2 0 2) ∧ IsBuf d w w' := by
  subst hd
  have HF : Hid (∀ O0 : Obj, IsBuf w.heap.size w (((((w.alloc O0).alloc (.cells (intsV (bufT 0)).toArray 65)).alloc (.cells (intsV (bufT 1)).toArray 65)).alloc (.cells #[.slice (some ⟨w.heap.size + 1, 0, none⟩) 4 4, .slice (some ⟨w.heap.size + 1 + 1, 0, none⟩) 4 4] 60)).alloc (.cells #[.int .i64 0, .int .i64 0] 3))) := fun O0 => by
    obtain ⟨O1, h1⟩ : ∃ o : Obj, o = .cells (intsV (bufT 0)).toArray 65 := ⟨_, rfl⟩
    obtain ⟨O2, h2⟩ : ∃ o : Obj, o = .cells (intsV (bufT 1)).toArray 65 := ⟨_, rfl⟩
    obtain ⟨O3, h3⟩ : ∃ o : Obj, o = .cells #[.slice (some ⟨w.heap.size + 1, 0, none⟩) 4 4, .slice (some ⟨w.heap.size + 1 + 1, 0, none⟩) 4 4] 60 := ⟨_, rfl⟩
    obtain ⟨O4, h4⟩ : ∃ o : Obj, o = .cells #[.int .i64 0, .int .i64 0] 3 := ⟨_, rfl⟩
    rw [← h1, ← h2, ← h3, ← h4]
    have b1 : (((((w.alloc O0).alloc O1).alloc O2).alloc O3).alloc O4).heap[w.heap.size + 1]? = some O1 := box_later (box_later (box_later (by have := heap_alloc_new (w.alloc O0) O1; rwa [World.size_alloc] at this) O2) O3) O4
    have b2 : (((((w.alloc O0).alloc O1).alloc O2).alloc O3).alloc O4).heap[w.heap.size + 1 + 1]? = some O2 := box_later (box_later (by have := heap_alloc_new ((w.alloc O0).alloc O1) O2; rwa [World.size_alloc, World.size_alloc] at this) O3) O4
    have b3 : (((((w.alloc O0).alloc O1).alloc O2).alloc O3).alloc O4).heap[w.heap.size + 1 + 1 + 1]? = some O3 := box_later (by have := heap_alloc_new (((w.alloc O0).alloc O1).alloc O2) O3; rwa [World.size_alloc, World.size_alloc, World.size_alloc] at this) O4
    have b4 : (((((w.alloc O0).alloc O1).alloc O2).alloc O3).alloc O4).heap[w.heap.size + 1 + 1 + 1 + 1]? = some O4 := by have := heap_alloc_new ((((w.alloc O0).alloc O1).alloc O2).alloc O3) O4; rwa [World.size_alloc, World.size_alloc, World.size_alloc, World.size_alloc] at this
    have hbel : Below w.heap.size w (((((w.alloc O0).alloc O1).alloc O2).alloc O3).alloc O4) := (((((Below.refl _ _).alloc (Nat.le_refl _) _).alloc (by simp) _).alloc (by simp; omega) _).alloc (by simp; omega) _).alloc (by simp; omega) _
    have hsz : (((((w.alloc O0).alloc O1).alloc O2).alloc O3).alloc O4).heap.size = w.heap.size + 5 := by simp
    obtain ⟨W, hW⟩ : ∃ W, W = (((((w.alloc O0).alloc O1).alloc O2).alloc O3).alloc O4) := ⟨_, rfl⟩
    rw [← hW] at b1 b2 b3 b4 hbel hsz ⊢
    rw [h1] at b1
    rw [h2] at b2
    rw [h3] at b3
    rw [h4] at b4
    refine ⟨⟨fun t ht => ⟨w.heap.size + 3, 0, rfl, ?_⟩, fun t i ht hi => ?_, fun t ht => by unfold bufL; omega, by omega⟩, fun i hi => ⟨w.heap.size + 4, 0, rfl, ?_⟩, hbel, by omega⟩
    · match t, ht with
      | 0, _ => exact box_cell b3 rfl
      | 1, _ => exact box_cell b3 rfl
    · have hi4 : i < 4 := hi
      match t, ht with
      | 0, _ =>
        refine ⟨w.heap.size + 1, 0, rfl, ?_, ?_, ?_, ?_⟩
        · have := box_cell b1 (buf_cell (t := 0) (i := i) (q := 0) hi4 (by omega)); simpa using this
        · have := box_cell b1 (buf_cell (t := 0) (i := i) (q := 1) hi4 (by omega)); simpa using this
        · have := box_cell b1 (buf_cell (t := 0) (i := i) (q := 2) hi4 (by omega)); simpa using this
        · have := box_cell b1 (buf_cell (t := 0) (i := i) (q := 3) hi4 (by omega)); simpa using this
      | 1, _ =>
        refine ⟨w.heap.size + 1 + 1, 0, rfl, ?_, ?_, ?_, ?_⟩
        · have := box_cell b2 (buf_cell (t := 1) (i := i) (q := 0) hi4 (by omega)); simpa using this
        · have := box_cell b2 (buf_cell (t := 1) (i := i) (q := 1) hi4 (by omega)); simpa using this
        · have := box_cell b2 (buf_cell (t := 1) (i := i) (q := 2) hi4 (by omega)); simpa using this
        · have := box_cell b2 (buf_cell (t := 1) (i := i) (q := 3) hi4 (by omega)); simpa using this
    · match i, hi with
      | 0, _ => exact box_cell b4 rfl
      | 1, _ => exact box_cell b4 rfl
  go_enter Tryz.func15, Tryz.ntmps15
  go_wp2
  refine bodyPost_ret (v := prgV (some ⟨w.heap.size + 3, 0, none⟩) 2 2 (some ⟨w.heap.size + 4, 0, none⟩) 2 2 0 2) (by simp [results, Tryz.results15, go_sem]) rfl ⟨rfl, HF.out _⟩

theorem buf_chk : chk 2 bufL bufX 2 0 2 = (0, 0, 0) := by kernel_rfl
theorem buf_cok : COk 2 bufL bufX 2 0 2 := by
  obtain ⟨_, _, _, lk', rg', h1, h2, h3⟩ := chk_cok buf_chk rfl
  obtain rfl : lk' = 0 := by omega
  obtain rfl : rg' = 2 := by omega
  exact h3
end

section
open Go.RowKit

def bufSts (mode : Int) : List Sx := goK (nxX bufL bufX mode) 1000 [beginX 2 [0, 0] 0 2] [beginX 2 [0, 0] 0 2]
def bufOcs (mode : Int) : List Oc := ((bufSts mode).flatMap (outsX bufL bufX mode)).foldr insO []
theorem buf_len0 : (bufSts 0).length = 40 ∧ (bufOcs 0).length = 6 := by decide +kernel
theorem buf_len1 : (bufSts 1).length = 101 ∧ (bufOcs 1).length = 8 := by decide +kernel
/-- What two threads come to, each of which stores into a word of its own and loads the other one's. -/
theorem buf_told0 : Told (nxX bufL bufX 0) (outsX bufL bufX 0) (beginX 2 [0, 0] 0 2) 4000 false (bufOcs 0) :=
  told_of (f := 1000) (by decide +kernel) (by have := buf_len0.1; unfold bufSts at this; omega)
theorem buf_told1 : Told (nxX bufL bufX 1) (outsX bufL bufX 1) (beginX 2 [0, 0] 0 2) 4000 false (bufOcs 1) :=
  told_of (f := 1000) (by decide +kernel) (by have := buf_len1.1; unfold bufSts at this; omega)
end

section
open Go.RowKit

theorem IsI.keep {w w' : World} {B B' : Nat} {a : Option Addr} {len c : Nat} {xs : List Int} {g1 g2 : Nat} {cs1 cs2 : Array Value} (h : IsI w B a len c xs) (hB : B' ≤ B) (h1 : w.heap[g1]? = some (.cells cs1 46)) (h2 : w.heap[g2]? = some (.cells cs2 30)) (hk : ∀ j, j ≠ g1 → j ≠ g2 → w'.heap[j]? = w.heap[j]?) : IsI w' B' a len c xs :=
  ⟨h.is, fam_keeps (own_low h.own hB) (fun g hg => hk g (fun e => own_type h.own h1 (by simp) (by rw [hg, e])) (fun e => own_type h.own h2 (by simp) (by rw [hg, e])))⟩

set_option maxRecDepth 100000 in
set_option maxHeartbeats 6400000 in
theorem run_yes (w : World) (ca : Option Addr) (n cc : Nat) (wa : Option Addr) (wc lk rg : Nat) (words script : List Int) (sa : Option Addr) (sc : Nat) (Q : Cd) (hK : Q.K = plainK) (hnt : Q.nt = n) (X : Nat → Nat → Nat → Int) (HR : Hid (chk n Q.L X words.length lk rg = (0, 0, 0))) (hp : PIn w ca n Q.A Q.L Q.C X) (hc : COk n Q.L X words.length lk rg) (hn0 : 0 < n) (hsl : script.length ≤ 9223372036854775807) (hw : SIs w wa words) (hnil : wa = none → words = [] ∧ wc = 0) (hsi : SIs w sa script) (hscap : script.length ≤ sc)
    (hsaB : ∀ b o, sa = some ⟨b, o, none⟩ → b < w.heap.size) (hpb : ∀ t b o i, ca = some ⟨b, o, none⟩ → t < n → b < w.heap.size ∧ ∀ b' o', Q.A t = some ⟨b', o', none⟩ → i < Q.L t → b' < w.heap.size) :
    Calls Tryz.prog 17 #[prgV ca n cc wa words.length wc lk rg, .slice sa script.length sc] w fun e w' => ∃ t, e = .returned (.tuple #[t, ints3 0 0 0]) ∧ TraceR w.heap.size w (runX Q.L X 0 5000 (beginX n words lk rg) 0 script) (.returned t) w' := by
  have HB : ∀ W, Below w.heap.size w W → PIn W ca n Q.A Q.L Q.C X := fun W hb => hp.below hb
  obtain ⟨R, hR⟩ : ∃ R, runX Q.L X 0 5000 (beginX n words lk rg) 0 script = R := ⟨_, rfl⟩
  rw [hR]
  go_enter Tryz.func17, Tryz.ntmps17
  go_wp2_with (fail)
  have HB3 := (((Below.refl w.heap.size w).alloc (Nat.le_refl _) (.cells #[.slice ca n cc, .slice wa words.length wc, .int .i64 (lk : Int), .int .i64 (rg : Int)] 25)).alloc (by simp) (.cells #[nilV, .int .i64 0, nilV, .int .i64 0] 46)).alloc (by simp; omega) (.cells #[.int .i64 0, .int .i64 0, .int .i64 0] 30)
  refine (check_any ca n cc wa words.length wc lk rg Q.A Q.L Q.C X 0 0 0 HR _ (HB _ HB3)).mono ?_
  rintro e w1 ⟨rfl, hb1⟩
  have hs1 := hb1.size
  simp only [World.size_alloc] at hs1
  have HB1 : Below w.heap.size w w1 := HB3.trans (hb1.mono (by simp; omega))
  obtain ⟨hT, hF⟩ := res_two hb1
  have p0 : w1.cell? ⟨w.heap.size, 0, none⟩ = some (.slice ca n cc) := (hb1.cell (p := ⟨w.heap.size, 0, none⟩) (by simp; omega)).trans (by go_simp)
  have p1 : w1.cell? ⟨w.heap.size, 1, none⟩ = some (.slice wa words.length wc) := (hb1.cell (p := ⟨w.heap.size, 1, none⟩) (by simp; omega)).trans (by go_simp)
  have p2 : w1.cell? ⟨w.heap.size, 2, none⟩ = some (.int .i64 (lk : Int)) := (hb1.cell (p := ⟨w.heap.size, 2, none⟩) (by simp; omega)).trans (by go_simp)
  have p3 : w1.cell? ⟨w.heap.size, 3, none⟩ = some (.int .i64 (rg : Int)) := (hb1.cell (p := ⟨w.heap.size, 3, none⟩) (by simp; omega)).trans (by go_simp)
  have HNEW : Hid (∀ W, Below w.heap.size w W → Calls Tryz.prog 25 #[prgV ca n cc wa words.length wc lk rg] W fun e w' => ∃ mb wv ov, e = .returned (.pointer (some ⟨mb, 0, none⟩)) ∧ Mem0 W w' mb wv ov words lk) := fun W hb => newPlain_any W ca n cc wa wc lk rg words (hw.below hb) hnil hc.m64 hc.lk4
  have HPLAY : Hid (∀ W w' mb wv ov, Below w.heap.size w W → Mem0 W w' mb wv ov words lk → Calls Tryz.prog 34 #[prgV ca n cc wa words.length wc lk rg, .iface 62 (.pointer (some ⟨mb, 0, none⟩)), .slice sa script.length sc] w' (TraceR W.heap.size w' (runX Q.L X 0 5000 (beginX n words lk rg) 0 script))) := fun W w' mb wv ov hb hm => by
    have := play_any W w' ca n cc wa wc lk rg mb (m0V mb wv ov) words script sa sc Q X (by rw [hK]; exact plain_law) hnt (hm.q (by rw [hK]; rfl)) (hp.below (hb.trans (hm.below.mono hb.size))) hc hn0 hsl (hsi.below (hb.trans (hm.below.mono hb.size))) hscap (fun b o e => Nat.lt_of_lt_of_le (hsaB b o e) hb.size) (fun t b o i e ht => ⟨Nat.lt_of_lt_of_le (hpb t b o i e ht).1 hb.size, fun b' o' e' hi => Nat.lt_of_lt_of_le ((hpb t b o i e ht).2 b' o' e' hi) hb.size⟩)
    rw [plain_top hK, hK] at this
    exact this
  rw [hR] at HPLAY
  clear hb1 hK hnt hp hc hn0 hsl hw hnil hsi hscap hsaB hpb HR HB hR HB3
  go_wp2_with (fail)
  have q0 := cell_up p0 (.cells #[.int .i64 0, .int .i64 0, .int .i64 0] 30)
  have q1 := cell_up p1 (.cells #[.int .i64 0, .int .i64 0, .int .i64 0] 30)
  have q2 := cell_up p2 (.cells #[.int .i64 0, .int .i64 0, .int .i64 0] 30)
  have q3 := cell_up p3 (.cells #[.int .i64 0, .int .i64 0, .int .i64 0] 30)
  have hT2 := box_later hT (.cells #[.int .i64 0, .int .i64 0, .int .i64 0] 30)
  have hF2 := box_later hF (.cells #[.int .i64 0, .int .i64 0, .int .i64 0] 30)
  have HB2 : Below w.heap.size w (w1.alloc (.cells #[.int .i64 0, .int .i64 0, .int .i64 0] 30)) := HB1.alloc HB1.size _
  have hs2 : w.heap.size + 1 + 1 + 1 ≤ (w1.alloc (.cells #[.int .i64 0, .int .i64 0, .int .i64 0] 30)).heap.size := by simp; omega
  obtain ⟨W2, hW2⟩ : ∃ W2, w1.alloc (.cells #[.int .i64 0, .int .i64 0, .int .i64 0] 30) = W2 := ⟨_, rfl⟩
  rw [hW2] at q0 q1 q2 q3 hT2 hF2 HB2 hs2
  have H2 := Hid.out (p := Hid _) HB2
  have HBX := Hid.out (p := Hid _) (And.intro hT2 hF2)
  clear p0 p1 p2 p3 HB1 hs1 hT hF hT2 hF2 HB2
  rw [hW2]
  clear hW2
  go_region_held3 (fun w' => w'.cell? ⟨w.heap.size, 0, none⟩ = some (.slice ca n cc) ∧ w'.cell? ⟨w.heap.size, 1, none⟩ = some (.slice wa words.length wc) ∧ w'.cell? ⟨w.heap.size, 2, none⟩ = some (.int .i64 (lk : Int)) ∧ w'.cell? ⟨w.heap.size, 3, none⟩ = some (.int .i64 (rg : Int))) (refine ⟨?_, ?_, ?_, ?_⟩ <;> (repeat (first | with_reducible assumption | with_reducible refine cell_drw ?_ | with_reducible refine cell_off ?_ (by first | (show w.heap.size ≠ w.heap.size + 1; omega) | (show w.heap.size ≠ w.heap.size + 1 + 1; omega))))) (first | (go_at_call 25; refine Calls.mono (HNEW.out _ H2.out.drew) ?_; rintro e w3 ⟨mb, wv, ov, rfl, hm⟩; have z0 : w3.cell? ⟨w.heap.size, 0, none⟩ = _ := (hm.below.cell (lt_of_cell q0)).trans q0; have z1 : w3.cell? ⟨w.heap.size, 1, none⟩ = _ := (hm.below.cell (lt_of_cell q1)).trans q1; have z2 : w3.cell? ⟨w.heap.size, 2, none⟩ = _ := (hm.below.cell (lt_of_cell q2)).trans q2; have z3 : w3.cell? ⟨w.heap.size, 3, none⟩ = _ := (hm.below.cell (lt_of_cell q3)).trans q3; have HM := Hid.out (p := Hid _) hm; clear hm) | (go_at_call 34; refine Calls.mono (HPLAY.out _ _ _ _ _ H2.out.drew HM.out) ?_; rintro e w4 ⟨pa, pl, pc, va, vl, vc, rfl, hI1, hI2, hb4⟩; have hT4 : w4.heap[w.heap.size + 1]? = _ := (hb4.block _ (by show _ < W2.heap.size; omega)).trans ((HM.out.below.block _ (by show _ < W2.heap.size; omega)).trans HBX.out.1); have hF4 : w4.heap[w.heap.size + 1 + 1]? = _ := (hb4.block _ (by show _ < W2.heap.size; omega)).trans ((HM.out.below.block _ (by show _ < W2.heap.size; omega)).trans HBX.out.2); have t0 : w4.cell? ⟨w.heap.size + 1, 0, none⟩ = some nilV := box_cell hT4 rfl; have t1 : w4.cell? ⟨w.heap.size + 1, 1, none⟩ = some (.int .i64 0) := box_cell hT4 rfl; have t2 : w4.cell? ⟨w.heap.size + 1, 2, none⟩ = some nilV := box_cell hT4 rfl; have t3 : w4.cell? ⟨w.heap.size + 1, 3, none⟩ = some (.int .i64 0) := box_cell hT4 rfl; have u0 : w4.cell? ⟨w.heap.size + 1 + 1, 0, none⟩ = some (.int .i64 0) := box_cell hF4 rfl; have u1 : w4.cell? ⟨w.heap.size + 1 + 1, 1, none⟩ = some (.int .i64 0) := box_cell hF4 rfl; have u2 : w4.cell? ⟨w.heap.size + 1 + 1, 2, none⟩ = some (.int .i64 0) := box_cell hF4 rfl; have tf : ∀ i, w4.frozen? ⟨w.heap.size + 1, i, none⟩ = false := fun i => box_free hT4; have uf : ∀ i, w4.frozen? ⟨w.heap.size + 1 + 1, i, none⟩ = false := fun i => box_free hF4; have y0 := (hb4.cell (p := ⟨w.heap.size, 0, none⟩) (by show w.heap.size < W2.heap.size; omega)).trans z0; have y1 := (hb4.cell (p := ⟨w.heap.size, 1, none⟩) (by show w.heap.size < W2.heap.size; omega)).trans z1; have y2 := (hb4.cell (p := ⟨w.heap.size, 2, none⟩) (by show w.heap.size < W2.heap.size; omega)).trans z2; have y3 := (hb4.cell (p := ⟨w.heap.size, 3, none⟩) (by show w.heap.size < W2.heap.size; omega)).trans z3; have HB4 := Hid.out (p := Hid _) hb4; have HT4 := Hid.out (p := Hid _) (And.intro hT4 hF4); clear hb4 hT4 hF4))
  all_goals go_wp2
  have hB : Below w.heap.size w w4 := (H2.out.drew.trans (HM.out.below.mono H2.out.size)).trans (HB4.out.mono H2.out.size)
  have hle : w.heap.size ≤ W2.drew.heap.size := H2.out.size
  have hk : ∀ (a0 a1 a2 a3 b0 b1 b2 : Value) (j : Nat), j ≠ w.heap.size + 1 → j ≠ w.heap.size + 1 + 1 → (((((((w4.setCell ⟨w.heap.size + 1, 0, none⟩ a0).setCell ⟨w.heap.size + 1, 1, none⟩ a1).setCell ⟨w.heap.size + 1, 2, none⟩ a2).setCell ⟨w.heap.size + 1, 3, none⟩ a3).setCell ⟨w.heap.size + 1 + 1, 0, none⟩ b0).setCell ⟨w.heap.size + 1 + 1, 1, none⟩ b1).setCell ⟨w.heap.size + 1 + 1, 2, none⟩ b2).heap[j]? = w4.heap[j]? := fun a0 a1 a2 a3 b0 b1 b2 j h1 h2 => by
    rw [Below.heap_setCell _ _ _ _ h2, Below.heap_setCell _ _ _ _ h2, Below.heap_setCell _ _ _ _ h2, Below.heap_setCell _ _ _ _ h1, Below.heap_setCell _ _ _ _ h1, Below.heap_setCell _ _ _ _ h1, Below.heap_setCell _ _ _ _ h1]
  refine bodyPost_ret (v := .tuple #[.agg #[.slice pa pl pc, .int .i64 R.2.1, .slice va vl vc, .int .i64 (R.2.2 : Int)], ints3 0 0 0]) (by simp [results, Tryz.results17, go_sem, t0, t1, t2, t3, u0, u1, u2]) rfl ⟨_, rfl, pa, pl, pc, va, vl, vc, rfl, hI1.keep hle HT4.out.1 HT4.out.2 (hk _ _ _ _ _ _ _), hI2.keep hle HT4.out.1 HT4.out.2 (hk _ _ _ _ _ _ _), ?_⟩
  exact ((((((hB.setCell (Nat.le_succ _) _).setCell (Nat.le_succ _) _).setCell (Nat.le_succ _) _).setCell (Nat.le_succ _) _).setCell (by show _ ≤ w.heap.size + 1 + 1; omega) _).setCell (by show _ ≤ w.heap.size + 1 + 1; omega) _).setCell (by show _ ≤ w.heap.size + 1 + 1; omega) _
end

end Go.Proofs.YtipdnfpomdcenabGreatDoor
