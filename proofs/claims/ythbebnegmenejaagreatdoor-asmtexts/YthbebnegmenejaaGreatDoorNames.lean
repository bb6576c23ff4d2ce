/-
  The program's table of names: the map that it makes of its table of orders, in whatever order that is gone through.
-/
import Derived.Test.YthbebnegmenejaaGreatDoorLine
import Derived.Maps.RangeRun
import Derived.Deep.LoopGhost
namespace Go.Proofs.YthbebnegmenejaaGreatDoor
open Go.RowKit
open Go.ChangeMaps (setBlock)

/-- The entries that stamps tell, in their order. -/
def opsE (js : List Nat) : Array MapEntry := (js.mapIdx fun i j => { key := .string (nm ((j : Int) + 1)), val := .int .i64 ((j : Int) + 1), born := i }).toArray

theorem opsE_snoc (js : List Nat) (j : Nat) : opsE (js ++ [j]) = (opsE js).push { key := .string (nm ((j : Int) + 1)), val := .int .i64 ((j : Int) + 1), born := js.length } := by
  simp [opsE, List.mapIdx_append]

theorem run_insS {P : Program} {mty kt et : TypeId} (hm : P.underlying mty = some (.map kt et)) (hk : P.underlying kt = some .string) (w : World) (r c : Nat) (es : Array MapEntry) (k : ByteArray) (v : Value)
    (hb : w.heap[r]? = some (.map es c)) (hf : Instr.findNow .string (.string k) es.toList 0 = some none) :
    (Instr.mapUpdate mty (.map (some r)) (.string k) v).run P w = .ok () (setBlock w r (.map (es.push { key := .string k, val := v, born := c }) (c + 1))) := by
  have hc : (Instr.checkKey false 10000 kt (.string k)).run P w = .ok () w := MapKept.run_checkKey hk (by simp [MapKept.IsKey]) false 9999
  simp [Instr.mapUpdate, run_underlying hm, MapKept.run_getObj_map hb, hc, MapKept.run_findKey hk hf, MapKept.run_setObj_map _ hb, Result.andThen, setBlock]

theorem bytes_ne {a b : ByteArray} (h : a ≠ b) : (a == b) = false := by
  cases hb : a == b with
  | false => rfl
  | true => exact absurd ((MapKept.bytes_beq a b).1 hb) h
theorem findS_none (k : ByteArray) : ∀ (l : List MapEntry) (i : Nat), (∀ e ∈ l, ∃ b, e.key = .string b ∧ b ≠ k) → Instr.findNow .string (.string k) l i = some none
  | [], _, _ => rfl
  | e :: l, i, h => by
    obtain ⟨b, hb, hne⟩ := h e (by simp)
    have : (k == b) = false := bytes_ne (fun e => hne e.symm)
    simp only [Instr.findNow, hb, Instr.sameNow, this]
    exact findS_none k l (i + 1) (fun e he => h e (by simp [he]))
theorem findS_some (k : ByteArray) (v : Value) : ∀ (l : List MapEntry) (i : Nat), (∃ e ∈ l, e.key = .string k) → (∀ e ∈ l, ∃ b, e.key = .string b ∧ (b = k → e.val = v)) → ∃ j, Instr.findNow .string (.string k) l i = some (some (j, v))
  | [], _, h, _ => by obtain ⟨e, he, _⟩ := h; simp at he
  | e :: l, i, h, ha => by
    obtain ⟨b, hb, hv⟩ := ha e (by simp)
    by_cases hk : b = k
    · subst hk
      exact ⟨i, by simp only [Instr.findNow, hb, Instr.sameNow, (MapKept.bytes_beq b b).2 rfl, hv rfl]⟩
    · have h1 : (k == b) = false := bytes_ne (fun e => hk e.symm)
      obtain ⟨j, hj⟩ := findS_some k v l (i + 1) (by
        obtain ⟨e', he', hke⟩ := h
        rcases List.mem_cons.1 he' with rfl | he'
        · rw [hb] at hke; exact absurd (by injection hke) hk
        · exact ⟨e', he', hke⟩) (fun e he => ha e (by simp [he]))
      exact ⟨j, by simp only [Instr.findNow, hb, Instr.sameNow, h1]; exact hj⟩

/-- No two orders have one name. -/
theorem nm_inj {a b : Nat} (ha : a < 18) (hb : b < 18) (h : nm ((a : Int) + 1) = nm ((b : Int) + 1)) : a = b := by
  have key : ∀ a : Nat, a < 18 → ∀ b : Nat, b < 18 → (nm ((a : Int) + 1)).data.toList = (nm ((b : Int) + 1)).data.toList → a = b := by decide
  exact key a ha b hb (by rw [h])

theorem shapes_born : ∀ x ∈ shapesArr.toList, x.born < 18 := by
  intro x hx
  simp [shapesArr] at hx
  rcases hx with rfl | rfl | rfl | rfl | rfl | rfl | rfl | rfl | rfl | rfl | rfl | rfl | rfl | rfl | rfl | rfl | rfl | rfl <;> simp
theorem shapes_nodup : (shapesArr.toList.map (·.born)).Nodup := by simp [shapesArr]
theorem shapes_entry {e : MapEntry} (he : e ∈ shapesArr.toList) : ∃ x y z : Int, e = { key := .int .i64 ((e.born : Int) + 1), val := .agg #[.string (nm ((e.born : Int) + 1)), .int .i64 x, .int .i64 y, .int .i64 z], born := e.born } := by
  simp [shapesArr] at he
  rcases he with rfl | rfl | rfl | rfl | rfl | rfl | rfl | rfl | rfl | rfl | rfl | rfl | rfl | rfl | rfl | rfl | rfl | rfl <;> exact ⟨_, _, _, rfl⟩

theorem heap_set {w : World} {b : Nat} {o : Obj} (h : b < w.heap.size) : (setBlock w b o).heap[b]? = some o := by simp [setBlock, h]
theorem heap_set_ne {w : World} {b k : Nat} {o : Obj} (h : k ≠ b) : (setBlock w b o).heap[k]? = w.heap[k]? := by
  simp only [setBlock, Array.getElem?_setIfInBounds]
  rw [if_neg (fun e => h e.symm)]
theorem below_set {B : Nat} {a w : World} {b : Nat} {o : Obj} (h : Below B a w) (hb : B ≤ b) : Below B a (setBlock w b o) :=
  h.trans ⟨rfl, rfl, rfl, by simp [setBlock], fun k hk => heap_set_ne (by omega)⟩

theorem opsE_keys (js : List Nat) : ∀ e ∈ (opsE js).toList, ∃ j ∈ js, e.key = .string (nm ((j : Int) + 1)) ∧ e.val = .int .i64 ((j : Int) + 1) := by
  intro e he
  simp only [opsE, List.mem_mapIdx] at he
  obtain ⟨i, hi, rfl⟩ := he
  exact ⟨js[i], List.getElem_mem hi, rfl, rfl⟩

theorem run_len_map {P : Program} {t k e : TypeId} (ht : P.underlying t = some (.map k e)) (ty : TypeId) (w : World) (b c : Nat) (es : Array MapEntry) (hb : w.heap[b]? = some (.map es c)) : (Builtin.len_ #[t] ty #[.map (some b)]).run P w = .ok (.int .i64 es.size) w := by
  simp [Builtin.len_, run_underlying ht, MapKept.run_getObj_map hb, Result.andThen, goInt]
theorem run_makeMap_hint {P : Program} {t k e : TypeId} (ht : P.underlying t = some (.map k e)) (n : Int) (w : World) : (Instr.makeMap t (some (.int .i64 n))).run P w = .ok (.map (some w.heap.size)) (w.alloc (.map #[] 0)) := by
  simp [Instr.makeMap, run_underlying ht, asInt, asIntOf, Result.andThen]

theorem left_start : (leftOf shapesArr ([] : List Nat).toArray).size ≤ 18 := by simp [leftOf, shapesArr]
theorem shapes_at {j : Nat} (hj : j < 18) : ∃ x ∈ shapesArr.toList, x.born = j := by
  refine ⟨shapesArr.toList[j]'hj, List.getElem_mem _, ?_⟩
  rcases (by omega : j = 0 ∨ j = 1 ∨ j = 2 ∨ j = 3 ∨ j = 4 ∨ j = 5 ∨ j = 6 ∨ j = 7 ∨ j = 8 ∨ j = 9 ∨ j = 10 ∨ j = 11 ∨ j = 12 ∨ j = 13 ∨ j = 14 ∨ j = 15 ∨ j = 16 ∨ j = 17) with rfl | rfl | rfl | rfl | rfl | rfl | rfl | rfl | rfl | rfl | rfl | rfl | rfl | rfl | rfl | rfl | rfl | rfl <;> rfl

set_option maxRecDepth 100000 in
set_option maxHeartbeats 800000 in
theorem opsByName_any (bm : Nat) (w : World) (hbm : w.heap[bm]? = some (.map shapesArr 18)) :
    Calls Tryz.prog 31 #[.map (some bm)] w fun e w' => ∃ js : List Nat, (∀ j, j < 18 → j ∈ js) ∧ (∀ j ∈ js, j < 18) ∧ e = .returned (.map (some w.heap.size)) ∧ w'.heap[w.heap.size]? = some (.map (opsE js) js.length) ∧ Below w.heap.size w w' := by
  have hlt : bm < w.heap.size := by
    rcases Nat.lt_or_ge bm w.heap.size with h | h
    · exact h
    · rw [Array.getElem?_eq_none h] at hbm; cases hbm
  have hl : ∀ ty, (Builtin.len_ #[43] ty #[.map (some bm)]).run Tryz.prog w = .ok (.int .i64 18) w := fun ty => run_len_map Tryz.underlying43 ty w bm 18 shapesArr hbm
  have hmk := run_makeMap_hint Tryz.underlying79 18 w
  have hrg := run_range_map (P := Tryz.prog) (w.alloc (.map #[] 0)) _ _ _ bm shapesArr 18 Tryz.underlying43 (by rw [heap_alloc_old w _ hlt]; exact hbm)
  have HBM : Hid (w.heap[bm]? = some (.map shapesArr 18)) := hbm
  clear hbm
  go_enter Tryz.func31, Tryz.ntmps31
  go_wp2
  go_loopg [4] 18 (fun g _ wr => ∃ (js : List Nat) (c0 : Nat), (leftOf shapesArr js.toArray).size ≤ g ∧ (∀ j ∈ js, j < 18) ∧ 18 ≤ c0 ∧ wr.heap[w.heap.size]? = some (.map (opsE js) js.length) ∧ wr.heap[w.heap.size + 1]? = some (.mapIter (some bm) 18 js.toArray c0) ∧ Below w.heap.size w wr)
  case atStart => exact ⟨[], 18, left_start, by simp, Nat.le_refl _, by rw [heap_alloc_old _ _ (by simp)]; exact heap_alloc_new _ _, by simpa using heap_alloc_new (w.alloc (.map #[] 0)) (.mapIter (some bm) 18 #[] 18), ((Below.refl _ _).alloc (Nat.le_refl _) _).alloc (by simp) _⟩
  case round =>
    obtain ⟨js, c0, hg, hjs, hc0, hm, hit, hbr⟩ := hrel
    have hbmr : wr.heap[bm]? = some (.map shapesArr 18) := by rw [hbr.block bm hlt]; exact HBM.out
    have hrlt : w.heap.size + 1 < wr.heap.size := by
      rcases Nat.lt_or_ge (w.heap.size + 1) wr.heap.size with h | h
      · exact h
      · rw [Array.getElem?_eq_none h] at hit; cases hit
    rcases run_next_at (P := Tryz.prog) wr 0 (w.heap.size + 1) bm 18 c0 js.toArray shapesArr 18 hit hbmr shapes_born hc0 with ⟨h0, hrun⟩ | ⟨e, he, w1, hw1, hrun⟩
    · have HALL : Hid (∀ j, j < 18 → j ∈ js) := by
        intro j hj
        obtain ⟨x, hx, rfl⟩ := shapes_at hj
        simpa using all_seen shapesArr js.toArray h0 x hx
      clear h0
      have HM := Hid.out (p := Hid _) hm
      have HJ := Hid.out (p := Hid _) hjs
      clear hm hit hbmr hjs
      go_wp2
      go_ret
      exact ⟨js, HALL.out, HJ.out, rfl, HM.out, hbr⟩
    · obtain ⟨hes, hsn⟩ := mem_left he
      obtain ⟨kx, ky, kz, heq⟩ := shapes_entry hes
      obtain ⟨j, hj⟩ : ∃ j, e.born = j := ⟨_, rfl⟩
      rw [hj] at heq hrun
      have hj18 : j < 18 := by rw [← hj]; exact shapes_born e hes
      have hjn : j ∉ js := by rw [← hj]; simpa using hsn
      have ek : e.key = .int .i64 ((j : Int) + 1) := by rw [heq]
      have ev : e.val = .agg #[.string (nm ((j : Int) + 1)), .int .i64 kx, .int .i64 ky, .int .i64 kz] := by rw [heq]
      rw [ek, ev] at hrun
      obtain ⟨N, hN⟩ : ∃ N, nm ((j : Int) + 1) = N := ⟨_, rfl⟩
      obtain ⟨w2, hw2⟩ : ∃ w2, setBlock w1 (w.heap.size + 1) (.mapIter (some bm) 18 (js.toArray.push j) 18) = w2 := ⟨_, rfl⟩
      have hw1h : w1.heap = wr.heap := by rcases hw1 with rfl | rfl <;> rfl
      have hb1 : Below w.heap.size w w1 := by
        rcases hw1 with rfl | rfl
        · exact hbr
        · exact hbr.drew
      have hb2 : Below w.heap.size w w2 := by rw [← hw2]; exact below_set hb1 (by omega)
      have h2m : w2.heap[w.heap.size]? = some (.map (opsE js) js.length) := by rw [← hw2, heap_set_ne (by omega), hw1h]; exact hm
      have h2i : w2.heap[w.heap.size + 1]? = some (.mapIter (some bm) 18 (js.toArray.push j) 18) := by rw [← hw2]; exact heap_set (by rw [hw1h]; exact hrlt)
      have h2b : w2.heap[bm]? = some (.map shapesArr 18) := by rw [← hw2, heap_set_ne (by omega), hw1h]; exact hbmr
      have h2s : w2.heap.size = wr.heap.size := by rw [← hw2]; simp [setBlock, hw1h]
      rw [hw2, hN] at hrun
      have hen : (Instr.entry (.pointer (some ⟨w.heap.size + 1, 0, none⟩))).run Tryz.prog w2 = .ok (.tuple #[.int .i64 ((j : Int) + 1), .agg #[.string N, .int .i64 kx, .int .i64 ky, .int .i64 kz]]) w2 := by
        have := run_entry_at (P := Tryz.prog) w2 (w.heap.size + 1) bm 18 js.toArray shapesArr 18 e (by rw [hj]; exact h2i) h2b hes shapes_nodup
        rwa [ek, ev, hN] at this
      obtain ⟨w3, hw3⟩ : ∃ w3, setBlock (w2.alloc (.cells #[.string N, .int .i64 kx, .int .i64 ky, .int .i64 kz] 50)) w.heap.size (.map (opsE (js ++ [j])) (js.length + 1)) = w3 := ⟨_, rfl⟩
      have hup : (Instr.mapUpdate 79 (.map (some w.heap.size)) (.string N) (.int .i64 ((j : Int) + 1))).run Tryz.prog (w2.alloc (.cells #[.string N, .int .i64 kx, .int .i64 ky, .int .i64 kz] 50)) = .ok () w3 := by
        rw [run_insS Tryz.underlying79 Tryz.underlying9 _ _ js.length (opsE js) N _ (by rw [heap_alloc_old _ _ (by omega)]; exact h2m) (findS_none N _ 0 ?_), ← hw3, opsE_snoc, hN]
        intro x hx
        obtain ⟨j', hj', hk', _⟩ := opsE_keys js x hx
        refine ⟨_, hk', ?_⟩
        rw [← hN]
        intro e2
        exact hjn (nm_inj (hjs j' hj') hj18 e2 ▸ hj')
      have hb3 : Below w.heap.size w w3 := by rw [← hw3]; exact below_set (hb2.alloc hb2.size _) (Nat.le_refl _)
      have h3m : w3.heap[w.heap.size]? = some (.map (opsE (js ++ [j])) (js ++ [j]).length) := by rw [← hw3]; simpa using heap_set (by simp; omega)
      have h3i : w3.heap[w.heap.size + 1]? = some (.mapIter (some bm) 18 (js ++ [j]).toArray 18) := by rw [← hw3, heap_set_ne (by omega), heap_alloc_old _ _ (by omega)]; simpa using h2i
      have hsh := left_shrinks shapesArr js.toArray e he
      have HR : Hid ((leftOf shapesArr (js ++ [j]).toArray).size ≤ gk - 1 ∧ (∀ i ∈ js ++ [j], i < 18) ∧ gk - 1 < gk) := by
        rw [hj] at hsh
        have e1 : js.toArray.push j = (js ++ [j]).toArray := by simp
        rw [e1] at hsh
        refine ⟨by omega, ?_, by omega⟩
        intro i hi; simp at hi; rcases hi with hi | rfl
        · exact hjs i hi
        · exact hj18
      clear hw3 hw2 hm hit hbmr hjs hsh hes hsn heq hj ek ev he hw1 hw1h hb1 h2m h2i h2b
      go_wp2
      go_roundg (gk - 1)
      case measure => exact HR.out.2.2
      case rel => exact ⟨js ++ [j], 18, HR.out.1, HR.out.2.1, Nat.le_refl _, h3m, h3i, hb3⟩

end Go.Proofs.YthbebnegmenejaaGreatDoor
