/-
  The program's printer: statements.
-/
import Derived.Test.YtclnjhffcfkihaeGreatDoorSprF
namespace Go.Proofs.YtclnjhffcfkihaeGreatDoor
open Go.RowKit

section
variable {rows : List Row}
set_option maxRecDepth 100000 in
set_option maxHeartbeats 1600000 in
theorem gst_local {d : Nat} {p : Int} {t : List UInt8} (ht12 : t.length ≤ 12) {ks : List Nd} (hks : ∀ x, x ∈ ks → WfX x ∧ ndSize x ≤ 1000) (hkl : ks.length ≤ 3) (hq : pcsB (pcsN d (.mk 6 0 p t ks)) = tabB d ++ ([105, 110, 116, 32] ++ t ++ [32, 61, 32] ++ lisT ks ks.length ++ [59]) ++ [10]) : PgS rows d (.mk 6 0 p t ks) := by
  refine ⟨_, hq, ?_⟩
  intro w0 w a c P l ka kc is hE hr hts hin hp hlen
  obtain ⟨o, ho⟩ : ∃ o, o = Obj.cells #[.int .i64 6, .int .i64 0, .int .i64 p, .string ⟨⟨t⟩⟩, .slice ka is.length kc] 53 := ⟨_, rfl⟩
  have hA := (Below.refl w.heap.size w).alloc (Nat.le_refl _) o
  have HA := Hid.out (p := Hid _) hA
  have HP := Hid.out (p := Hid _) hp
  have HP1 := Hid.out (p := Hid _) (hp.below hA)
  have hl2 : l.length ≤ 9000000 := by omega
  have HX : Hid (∀ (W : World) (l : List UInt8), Px w0 a c rows W P l d → l.length ≤ 9500000 → Calls Tryz.prog 98 #[.pointer (some ⟨P, 0, none⟩), .slice ka is.length kc, .string ⟨#[59]⟩] W fun e w' => e = .returned (.tuple #[]) ∧ Pz w0 a c rows W P (l ++ (lisT ks ks.length ++ [59])) d w') := fun W l hW hl => glist_any hks hkl w0 W a c P l d ka kc is ⟨#[59]⟩ hE hr hts hin hW hl (by show 1 ≤ 100; omega)
  have HO := Hid.out (p := Hid _) ho
  clear hE hr hts hin hp hlen hA hq ho hks hkl
  go_enter Tryz.func72, Tryz.ntmps72
  go_wp2_with fail
  rw [← HO.out]
  refine Calls.mono (put3 HP1.out.pr (w.heap.size + 1) (by simp) ⟨#[105, 110, 116, 32]⟩ ⟨⟨t⟩⟩ ⟨#[32, 61, 32]⟩ (by simp only [Lib.size_eq]; show l.length + 4 + t.length + 3 ≤ 10000000; omega)) ?_
  rintro e w2 ⟨rfl, hq⟩
  have hz := HP1.out.puq hq
  have hx2 := (hz.typ _ _ (heap_alloc_new w o) (by rw [HO.out]; exact oth_node _)).trans (heap_alloc_new w o)
  rw [HO.out] at hx2
  obtain ⟨e0, e1, e2, e3, e4, ef⟩ := box5 hx2
  have HZ := Hid.out (p := Hid _) (Pz.after HP.out HA.out hz)
  clear hq hx2 hz
  go_wp2_with fail
  refine Calls.mono (HX.out _ _ HZ.out.px (by simp only [List.length_append, List.length_cons, List.length_nil]; omega)) ?_
  rintro e w3 ⟨rfl, hz3⟩
  have HZ3 := Hid.out (p := Hid _) (HZ.out.trans hz3)
  clear hz3 e0 e1 e2 e3 e4 ef
  go_wp2_with fail
  go_end0
  refine ⟨rfl, ?_⟩
  simpa using HZ3.out
set_option maxRecDepth 100000 in
set_option maxHeartbeats 1600000 in
theorem gst_assign {d : Nat} {p : Int} {t : List UInt8} (ht12 : t.length ≤ 12) {ks : List Nd} (hks : ∀ x, x ∈ ks → WfX x ∧ ndSize x ≤ 1000) (hkl : ks.length ≤ 3) (hq : pcsB (pcsN d (.mk 7 0 p t ks)) = tabB d ++ (t ++ [32, 61, 32] ++ lisT ks ks.length ++ [59]) ++ [10]) : PgS rows d (.mk 7 0 p t ks) := by
  refine ⟨_, hq, ?_⟩
  intro w0 w a c P l ka kc is hE hr hts hin hp hlen
  obtain ⟨o, ho⟩ : ∃ o, o = Obj.cells #[.int .i64 7, .int .i64 0, .int .i64 p, .string ⟨⟨t⟩⟩, .slice ka is.length kc] 53 := ⟨_, rfl⟩
  have hA := (Below.refl w.heap.size w).alloc (Nat.le_refl _) o
  have HA := Hid.out (p := Hid _) hA
  have HP := Hid.out (p := Hid _) hp
  have HP1 := Hid.out (p := Hid _) (hp.below hA)
  have hl2 : l.length ≤ 9000000 := by omega
  have HX : Hid (∀ (W : World) (l : List UInt8), Px w0 a c rows W P l d → l.length ≤ 9500000 → Calls Tryz.prog 98 #[.pointer (some ⟨P, 0, none⟩), .slice ka is.length kc, .string ⟨#[59]⟩] W fun e w' => e = .returned (.tuple #[]) ∧ Pz w0 a c rows W P (l ++ (lisT ks ks.length ++ [59])) d w') := fun W l hW hl => glist_any hks hkl w0 W a c P l d ka kc is ⟨#[59]⟩ hE hr hts hin hW hl (by show 1 ≤ 100; omega)
  have HO := Hid.out (p := Hid _) ho
  clear hE hr hts hin hp hlen hA hq ho hks hkl
  go_enter Tryz.func72, Tryz.ntmps72
  go_wp2_with fail
  rw [← HO.out]
  refine Calls.mono (put2 HP1.out.pr (w.heap.size + 1) (by simp) ⟨⟨t⟩⟩ ⟨#[32, 61, 32]⟩ (by simp only [Lib.size_eq]; show l.length + t.length + 3 ≤ 10000000; omega)) ?_
  rintro e w2 ⟨rfl, hq⟩
  have hz := HP1.out.puq hq
  have hx2 := (hz.typ _ _ (heap_alloc_new w o) (by rw [HO.out]; exact oth_node _)).trans (heap_alloc_new w o)
  rw [HO.out] at hx2
  obtain ⟨e0, e1, e2, e3, e4, ef⟩ := box5 hx2
  have HZ := Hid.out (p := Hid _) (Pz.after HP.out HA.out hz)
  clear hq hx2 hz
  go_wp2_with fail
  refine Calls.mono (HX.out _ _ HZ.out.px (by simp only [List.length_append, List.length_cons, List.length_nil]; omega)) ?_
  rintro e w3 ⟨rfl, hz3⟩
  have HZ3 := Hid.out (p := Hid _) (HZ.out.trans hz3)
  clear hz3 e0 e1 e2 e3 e4 ef
  go_wp2_with fail
  go_end0
  refine ⟨rfl, ?_⟩
  simpa using HZ3.out
set_option maxRecDepth 100000 in
set_option maxHeartbeats 1600000 in
theorem gst_cas {d : Nat} {p : Int} {t : List UInt8} (ht12 : t.length ≤ 12) {ks : List Nd} (hks : ∀ x, x ∈ ks → WfX x ∧ ndSize x ≤ 1000) (hkl : ks.length ≤ 3) (hq : pcsB (pcsN d (.mk 8 0 p t ks)) = tabB d ++ (t ++ [32, 61, 32, 99, 97, 115, 40] ++ lisT ks ks.length ++ [41, 59]) ++ [10]) : PgS rows d (.mk 8 0 p t ks) := by
  refine ⟨_, hq, ?_⟩
  intro w0 w a c P l ka kc is hE hr hts hin hp hlen
  obtain ⟨o, ho⟩ : ∃ o, o = Obj.cells #[.int .i64 8, .int .i64 0, .int .i64 p, .string ⟨⟨t⟩⟩, .slice ka is.length kc] 53 := ⟨_, rfl⟩
  have hA := (Below.refl w.heap.size w).alloc (Nat.le_refl _) o
  have HA := Hid.out (p := Hid _) hA
  have HP := Hid.out (p := Hid _) hp
  have HP1 := Hid.out (p := Hid _) (hp.below hA)
  have hl2 : l.length ≤ 9000000 := by omega
  have HX : Hid (∀ (W : World) (l : List UInt8), Px w0 a c rows W P l d → l.length ≤ 9500000 → Calls Tryz.prog 98 #[.pointer (some ⟨P, 0, none⟩), .slice ka is.length kc, .string ⟨#[41, 59]⟩] W fun e w' => e = .returned (.tuple #[]) ∧ Pz w0 a c rows W P (l ++ (lisT ks ks.length ++ [41, 59])) d w') := fun W l hW hl => glist_any hks hkl w0 W a c P l d ka kc is ⟨#[41, 59]⟩ hE hr hts hin hW hl (by show 2 ≤ 100; omega)
  have HO := Hid.out (p := Hid _) ho
  clear hE hr hts hin hp hlen hA hq ho hks hkl
  go_enter Tryz.func72, Tryz.ntmps72
  go_wp2_with fail
  rw [← HO.out]
  refine Calls.mono (put2 HP1.out.pr (w.heap.size + 1) (by simp) ⟨⟨t⟩⟩ ⟨#[32, 61, 32, 99, 97, 115, 40]⟩ (by simp only [Lib.size_eq]; show l.length + t.length + 7 ≤ 10000000; omega)) ?_
  rintro e w2 ⟨rfl, hq⟩
  have hz := HP1.out.puq hq
  have hx2 := (hz.typ _ _ (heap_alloc_new w o) (by rw [HO.out]; exact oth_node _)).trans (heap_alloc_new w o)
  rw [HO.out] at hx2
  obtain ⟨e0, e1, e2, e3, e4, ef⟩ := box5 hx2
  have HZ := Hid.out (p := Hid _) (Pz.after HP.out HA.out hz)
  clear hq hx2 hz
  go_wp2_with fail
  refine Calls.mono (HX.out _ _ HZ.out.px (by simp only [List.length_append, List.length_cons, List.length_nil]; omega)) ?_
  rintro e w3 ⟨rfl, hz3⟩
  have HZ3 := Hid.out (p := Hid _) (HZ.out.trans hz3)
  clear hz3 e0 e1 e2 e3 e4 ef
  go_wp2_with fail
  go_end0
  refine ⟨rfl, ?_⟩
  simpa using HZ3.out
set_option maxRecDepth 100000 in
set_option maxHeartbeats 1600000 in
theorem gst_print {d : Nat} {p : Int} {ks : List Nd} (hks : ∀ x, x ∈ ks → WfX x ∧ ndSize x ≤ 1000) (hkl : ks.length ≤ 3) (hq : pcsB (pcsN d (.mk 11 0 p [] ks)) = tabB d ++ ([112, 114, 105, 110, 116, 40] ++ lisT ks ks.length ++ [41, 59]) ++ [10]) : PgS rows d (.mk 11 0 p [] ks) := by
  refine ⟨_, hq, ?_⟩
  intro w0 w a c P l ka kc is hE hr hts hin hp hlen
  obtain ⟨o, ho⟩ : ∃ o, o = Obj.cells #[.int .i64 11, .int .i64 0, .int .i64 p, .string ⟨⟨[]⟩⟩, .slice ka is.length kc] 53 := ⟨_, rfl⟩
  have hA := (Below.refl w.heap.size w).alloc (Nat.le_refl _) o
  have HA := Hid.out (p := Hid _) hA
  have HP := Hid.out (p := Hid _) hp
  have HP1 := Hid.out (p := Hid _) (hp.below hA)
  have hl2 : l.length ≤ 9000000 := by omega
  have HX : Hid (∀ (W : World) (l : List UInt8), Px w0 a c rows W P l d → l.length ≤ 9500000 → Calls Tryz.prog 98 #[.pointer (some ⟨P, 0, none⟩), .slice ka is.length kc, .string ⟨#[41, 59]⟩] W fun e w' => e = .returned (.tuple #[]) ∧ Pz w0 a c rows W P (l ++ (lisT ks ks.length ++ [41, 59])) d w') := fun W l hW hl => glist_any hks hkl w0 W a c P l d ka kc is ⟨#[41, 59]⟩ hE hr hts hin hW hl (by show 2 ≤ 100; omega)
  have HO := Hid.out (p := Hid _) ho
  clear hE hr hts hin hp hlen hA hq ho hks hkl
  go_enter Tryz.func72, Tryz.ntmps72
  go_wp2_with fail
  rw [← HO.out]
  refine Calls.mono (put1 HP1.out.pr (w.heap.size + 1) (by simp) ⟨#[112, 114, 105, 110, 116, 40]⟩ (by show l.length + 6 ≤ 10000000; omega)) ?_
  rintro e w2 ⟨rfl, hq⟩
  have hz := HP1.out.puq hq
  have hx2 := (hz.typ _ _ (heap_alloc_new w o) (by rw [HO.out]; exact oth_node _)).trans (heap_alloc_new w o)
  rw [HO.out] at hx2
  obtain ⟨e0, e1, e2, e3, e4, ef⟩ := box5 hx2
  have HZ := Hid.out (p := Hid _) (Pz.after HP.out HA.out hz)
  clear hq hx2 hz
  go_wp2_with fail
  refine Calls.mono (HX.out _ _ HZ.out.px (by simp only [List.length_append, List.length_cons, List.length_nil]; omega)) ?_
  rintro e w3 ⟨rfl, hz3⟩
  have HZ3 := Hid.out (p := Hid _) (HZ.out.trans hz3)
  clear hz3 e0 e1 e2 e3 e4 ef
  go_wp2_with fail
  go_end0
  refine ⟨rfl, ?_⟩
  simpa using HZ3.out
set_option maxRecDepth 100000 in
set_option maxHeartbeats 1600000 in
theorem gst_take {d : Nat} {p : Int} {t : List UInt8} (ht12 : t.length ≤ 12) (hq : pcsB (pcsN d (.mk 12 0 p t [])) = tabB d ++ ([108, 111, 99, 107, 40] ++ t ++ [41, 59]) ++ [10]) : PgS rows d (.mk 12 0 p t []) := by
  refine ⟨_, hq, ?_⟩
  intro w0 w a c P l ka kc is hE hr hts hin hp hlen
  obtain ⟨o, ho⟩ : ∃ o, o = Obj.cells #[.int .i64 12, .int .i64 0, .int .i64 p, .string ⟨⟨t⟩⟩, .slice ka is.length kc] 53 := ⟨_, rfl⟩
  have hA := (Below.refl w.heap.size w).alloc (Nat.le_refl _) o
  have HA := Hid.out (p := Hid _) hA
  have HP := Hid.out (p := Hid _) hp
  have HP1 := Hid.out (p := Hid _) (hp.below hA)
  have hl2 : l.length ≤ 9000000 := by omega
  have HO := Hid.out (p := Hid _) ho
  clear hE hr hts hin hp hlen hA hq ho
  go_enter Tryz.func72, Tryz.ntmps72
  go_wp2_with fail
  rw [← HO.out]
  refine Calls.mono (put3 HP1.out.pr (w.heap.size + 1) (by simp) ⟨#[108, 111, 99, 107, 40]⟩ ⟨⟨t⟩⟩ ⟨#[41, 59]⟩ (by simp only [Lib.size_eq]; show l.length + 5 + t.length + 2 ≤ 10000000; omega)) ?_
  rintro e w2 ⟨rfl, hq⟩
  have hz := HP1.out.puq hq
  have HZ3 := Hid.out (p := Hid _) (Pz.after HP.out HA.out hz)
  clear hq hz
  go_wp2_with fail
  go_end0
  refine ⟨rfl, ?_⟩
  simpa using HZ3.out
set_option maxRecDepth 100000 in
set_option maxHeartbeats 1600000 in
theorem gst_give {d : Nat} {p : Int} {t : List UInt8} (ht12 : t.length ≤ 12) (hq : pcsB (pcsN d (.mk 13 0 p t [])) = tabB d ++ ([117, 110, 108, 111, 99, 107, 40] ++ t ++ [41, 59]) ++ [10]) : PgS rows d (.mk 13 0 p t []) := by
  refine ⟨_, hq, ?_⟩
  intro w0 w a c P l ka kc is hE hr hts hin hp hlen
  obtain ⟨o, ho⟩ : ∃ o, o = Obj.cells #[.int .i64 13, .int .i64 0, .int .i64 p, .string ⟨⟨t⟩⟩, .slice ka is.length kc] 53 := ⟨_, rfl⟩
  have hA := (Below.refl w.heap.size w).alloc (Nat.le_refl _) o
  have HA := Hid.out (p := Hid _) hA
  have HP := Hid.out (p := Hid _) hp
  have HP1 := Hid.out (p := Hid _) (hp.below hA)
  have hl2 : l.length ≤ 9000000 := by omega
  have HO := Hid.out (p := Hid _) ho
  clear hE hr hts hin hp hlen hA hq ho
  go_enter Tryz.func72, Tryz.ntmps72
  go_wp2_with fail
  rw [← HO.out]
  refine Calls.mono (put3 HP1.out.pr (w.heap.size + 1) (by simp) ⟨#[117, 110, 108, 111, 99, 107, 40]⟩ ⟨⟨t⟩⟩ ⟨#[41, 59]⟩ (by simp only [Lib.size_eq]; show l.length + 7 + t.length + 2 ≤ 10000000; omega)) ?_
  rintro e w2 ⟨rfl, hq⟩
  have hz := HP1.out.puq hq
  have HZ3 := Hid.out (p := Hid _) (Pz.after HP.out HA.out hz)
  clear hq hz
  go_wp2_with fail
  go_end0
  refine ⟨rfl, ?_⟩
  simpa using HZ3.out
set_option maxRecDepth 100000 in
set_option maxHeartbeats 1600000 in
theorem gst_fence {d : Nat} {p : Int} (hq : pcsB (pcsN d (.mk 14 0 p [] [])) = tabB d ++ ([102, 101, 110, 99, 101, 59]) ++ [10]) : PgS rows d (.mk 14 0 p [] []) := by
  refine ⟨_, hq, ?_⟩
  intro w0 w a c P l ka kc is hE hr hts hin hp hlen
  obtain ⟨o, ho⟩ : ∃ o, o = Obj.cells #[.int .i64 14, .int .i64 0, .int .i64 p, .string ⟨⟨[]⟩⟩, .slice ka is.length kc] 53 := ⟨_, rfl⟩
  have hA := (Below.refl w.heap.size w).alloc (Nat.le_refl _) o
  have HA := Hid.out (p := Hid _) hA
  have HP := Hid.out (p := Hid _) hp
  have HP1 := Hid.out (p := Hid _) (hp.below hA)
  have hl2 : l.length ≤ 9000000 := by omega
  have HO := Hid.out (p := Hid _) ho
  clear hE hr hts hin hp hlen hA hq ho
  go_enter Tryz.func72, Tryz.ntmps72
  go_wp2_with fail
  rw [← HO.out]
  refine Calls.mono (put1 HP1.out.pr (w.heap.size + 1) (by simp) ⟨#[102, 101, 110, 99, 101, 59]⟩ (by show l.length + 6 ≤ 10000000; omega)) ?_
  rintro e w2 ⟨rfl, hq⟩
  have hz := HP1.out.puq hq
  have HZ3 := Hid.out (p := Hid _) (Pz.after HP.out HA.out hz)
  clear hq hz
  go_wp2_with fail
  go_end0
  refine ⟨rfl, ?_⟩
  simpa using HZ3.out
set_option maxRecDepth 100000 in
set_option maxHeartbeats 1600000 in
theorem gst_while {d : Nat} {p : Int} {x y : Nd} (hwx : WfX x) (hy : PgK rows d y) (hq : pcsB (pcsN d (.mk 10 0 p [] [x, y])) = tabB d ++ ([119, 104, 105, 108, 101, 32, 40] ++ pcsB (pcsX x) ++ [41, 32] ++ pcsB (pcsN d y)) ++ [10]) : PgS rows d (.mk 10 0 p [] [x, y]) := by
  refine ⟨_, hq, ?_⟩
  intro w0 w a c P l ka kc is hE hr hts hin hp hlen
  obtain ⟨i0, i1, rfl, t0, t1⟩ := ts_two hts
  have hA := (Below.refl w.heap.size w).alloc (Nat.le_refl _) (Obj.cells #[.int .i64 10, .int .i64 0, .int .i64 p, .string ⟨⟨[]⟩⟩, .slice ka 2 kc] 53)
  have hp1 := hp.below hA
  have hsz : l.length + 7000 * (ndSize x + ndSize y + 1) ≤ 9000000 := by
    simp only [ndSize, ndsSize] at hlen
    omega
  have HX := Hid.out (p := Hid _) (gguard2 hwx hy w0 _ a c P l ka kc i0 i1 ⟨#[119, 104, 105, 108, 101, 32, 40]⟩ hE hr t0 t1 hin hp1 (by show 7 ≤ 10; omega) hsz)
  have HA := Hid.out (p := Hid _) (And.intro hp hA)
  clear hE hr hts hin hp hlen hA hq hp1 hy t0 t1 hsz hwx
  go_enter Tryz.func72, Tryz.ntmps72
  go_wp2_with fail
  refine Calls.mono HX.out ?_
  rintro e w2 ⟨rfl, hz2⟩
  have HZ := Hid.out (p := Hid _) (Pz.after HA.out.1 HA.out.2 hz2)
  clear hz2
  go_wp2_with fail
  go_end0
  exact ⟨rfl, HZ.out⟩
set_option maxRecDepth 100000 in
set_option maxHeartbeats 1600000 in
theorem gst_if {d : Nat} {p : Int} {x y : Nd} (hwx : WfX x) (hy : PgK rows d y) (hq : pcsB (pcsN d (.mk 9 0 p [] [x, y])) = tabB d ++ ([105, 102, 32, 40] ++ pcsB (pcsX x) ++ [41, 32] ++ pcsB (pcsN d y)) ++ [10]) : PgS rows d (.mk 9 0 p [] [x, y]) := by
  refine ⟨_, hq, ?_⟩
  intro w0 w a c P l ka kc is hE hr hts hin hp hlen
  obtain ⟨i0, i1, rfl, t0, t1⟩ := ts_two hts
  have hA := (Below.refl w.heap.size w).alloc (Nat.le_refl _) (Obj.cells #[.int .i64 9, .int .i64 0, .int .i64 p, .string ⟨⟨[]⟩⟩, .slice ka 2 kc] 53)
  have hp1 := hp.below hA
  have hsz : l.length + 7000 * (ndSize x + ndSize y + 1) ≤ 9000000 := by
    simp only [ndSize, ndsSize] at hlen
    omega
  have HX := Hid.out (p := Hid _) (gguard2 hwx hy w0 _ a c P l ka kc i0 i1 ⟨#[105, 102, 32, 40]⟩ hE hr t0 t1 hin hp1 (by show 4 ≤ 10; omega) hsz)
  have HA := Hid.out (p := Hid _) (And.intro hp hA)
  clear hE hr hts hin hp hlen hA hq hp1 hy t0 t1 hsz hwx
  go_enter Tryz.func72, Tryz.ntmps72
  go_wp2_with fail
  refine Calls.mono HX.out ?_
  rintro e w2 ⟨rfl, hz2⟩
  have HZ := Hid.out (p := Hid _) (Pz.after HA.out.1 HA.out.2 hz2)
  clear hz2
  go_wp2_with fail
  go_end0
  exact ⟨rfl, HZ.out⟩
set_option maxRecDepth 100000 in
set_option maxHeartbeats 1600000 in
theorem gst_else {d : Nat} {p : Int} {x y z : Nd} (hwx : WfX x) (hy : PgK rows d y) (hz : PgK rows d z) (hly : (pcsB (pcsN d y)).length ≤ 7000 * ndSize y) (hq : pcsB (pcsN d (.mk 9 0 p [] [x, y, z])) = tabB d ++ ([105, 102, 32, 40] ++ pcsB (pcsX x) ++ [41, 32] ++ pcsB (pcsN d y) ++ [32, 101, 108, 115, 101, 32] ++ pcsB (pcsN d z)) ++ [10]) : PgS rows d (.mk 9 0 p [] [x, y, z]) := by
  refine ⟨_, hq, ?_⟩
  intro w0 w a c P l ka kc is hE hr hts hin hp hlen
  obtain ⟨i0, i1, i2, rfl, t0, t1, t2⟩ := ts_three hts
  have hA := (Below.refl w.heap.size w).alloc (Nat.le_refl _) (Obj.cells #[.int .i64 9, .int .i64 0, .int .i64 p, .string ⟨⟨[]⟩⟩, .slice ka 3 kc] 53)
  have hp1 := hp.below hA
  have hsz : l.length + 7000 * (ndSize x + ndSize y + ndSize z + 1) ≤ 9000000 := by
    simp only [ndSize, ndsSize] at hlen
    omega
  have HX := Hid.out (p := Hid _) (gguard3 hwx hy hz hly w0 _ a c P l ka kc i0 i1 i2 ⟨#[105, 102, 32, 40]⟩ hE hr t0 t1 t2 hin hp1 (by show 4 ≤ 10; omega) hsz)
  have HA := Hid.out (p := Hid _) (And.intro hp hA)
  clear hE hr hts hin hp hlen hA hq hp1 hy t0 t1 hz hly t2 hsz hwx
  go_enter Tryz.func72, Tryz.ntmps72
  go_wp2_with fail
  refine Calls.mono HX.out ?_
  rintro e w2 ⟨rfl, hz2⟩
  have HZ := Hid.out (p := Hid _) (Pz.after HA.out.1 HA.out.2 hz2)
  clear hz2
  go_wp2_with fail
  go_end0
  exact ⟨rfl, HZ.out⟩
end

end Go.Proofs.YtclnjhffcfkihaeGreatDoor
