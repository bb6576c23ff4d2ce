/-
  Outcomes that are Done, with the first words alone; by the laws.
  All outcomes of a program, by the document: Make.
-/
import Derived.Test.YtefnmbnakphhfadZPut
import Derived.BigRegion
import Derived.Test.YtefnmbnakphhfadZBy2
namespace Go.Proofs.Ytefnmbnakphhfad
section
open Go.RowKit

/-- An outcome with its first words alone. -/
def cutE (n : Nat) (e : En) : En := ⟨⟨0, e.o.ws.take n, e.o.pr⟩, e.wa, e.wc, e.pa, e.pc⟩
def cutEs (n : Nat) (es : List En) : List En := (es.filter fun e => decide (e.o.st = 0)).map (cutE n)
def cutO (n : Nat) (l : List Oc) : List Oc := (l.filter fun o => decide (o.st = 0)).map fun o => ⟨0, o.ws.take n, o.pr⟩
theorem cut_map (n : Nat) : ∀ es : List En, (cutEs n es).map En.o = cutO n (es.map En.o)
  | [] => rfl
  | e :: es => by
    have ih := cut_map n es
    unfold cutEs cutO at ih ⊢
    rw [List.map_cons, List.filter_cons, List.filter_cons]
    split
    · rw [List.map_cons, List.map_cons, List.map_cons, ih]
      rfl
    · exact ih
theorem cut_take {n : Nat} {es : List En} {k : Nat} (hk : k < es.length) : cutEs n (es.take (k + 1)) = if (es.getD k default).o.st = 0 then cutEs n (es.take k) ++ [cutE n (es.getD k default)] else cutEs n (es.take k) := by
  rw [List.take_add_one, List.getElem?_eq_getElem hk, List.getD_eq_getElem?_getD, List.getElem?_eq_getElem hk]
  unfold cutEs
  simp only [Option.toList_some, Option.getD_some, List.filter_append, List.map_append]
  by_cases h : es[k].o.st = 0
  · rw [if_pos h, List.filter_cons, if_pos (by simpa using h)]
    rfl
  · rw [if_neg h, List.filter_cons, if_neg (by simpa using h)]
    simp
theorem cut_len (n : Nat) (es : List En) : (cutEs n es).length ≤ es.length := by
  unfold cutEs
  rw [List.length_map]
  exact List.length_filter_le _ _
theorem cut_ok {w : World} {n : Nat} {e : En} (h : EnOk w e) : EnOk w (cutE n e) := by
  refine ⟨fun i hi => ?_, h.pr, ?_, h.pl⟩
  · have hi' : i < e.o.ws.length := by
      have : i < (e.o.ws.take n).length := hi
      rw [List.length_take] at this
      omega
    have hin : i < n := by
      have : i < (e.o.ws.take n).length := hi
      rw [List.length_take] at this
      omega
    obtain ⟨b, o, h1, h2⟩ := h.ws i hi'
    refine ⟨b, o, h1, ?_⟩
    rw [h2]
    show some (Value.int .i64 (e.o.ws.getD i 0)) = some (.int .i64 ((e.o.ws.take n).getD i 0))
    rw [List.getD_eq_getElem?_getD, List.getD_eq_getElem?_getD, List.getElem?_take_of_lt hin]
  · show (e.o.ws.take n).length ≤ 100000
    rw [List.length_take]
    have := h.wl
    omega
theorem cut_mem {n : Nat} {es : List En} {x : En} (h : x ∈ cutEs n es) : ∃ e, e ∈ es ∧ e.o.st = 0 ∧ x = cutE n e := by
  unfold cutEs at h
  obtain ⟨e, he, rfl⟩ := List.mem_map.mp h
  rw [List.mem_filter] at he
  exact ⟨e, he.1, by simpa using he.2, rfl⟩
theorem iso_ein {w : World} {B : Nat} {a : Option Addr} {len c : Nat} {es : List En} (h : IsO w B a len c es) : EIn w a es := fun i hi => by
  obtain ⟨g, cap, h1, h2, _, _⟩ := fam_block h.own (by have := h.is; omega)
  simp only [Value.slice.injEq] at h1
  have hc := fun j hj => fam_cell h.own h2 (i := i * 3 + j) (u := enC (es.getD i default) j) (rows3_get hi hj)
  refine ⟨g, 0, h1.1, ?_, ?_, ?_⟩
  · have := hc 0 (by omega)
    rw [show 0 + i * 3 = i * 3 + 0 by omega]
    exact this
  · have := hc 1 (by omega)
    rw [show 0 + i * 3 + 1 = i * 3 + 1 by omega]
    exact this
  · have := hc 2 (by omega)
    rw [show 0 + i * 3 + 2 = i * 3 + 2 by omega]
    exact this

theorem slice_ints (wa : Option Addr) (len wc n : Nat) (h : n ≤ wc) (V : World) : (Instr.slice 23 (.slice wa len wc) none (some (.int .i64 (n : Int))) none).run Try.prog V = .ok (.slice wa n wc) V := by
  rw [run_slice_h (P := Try.prog) V 23 wa len wc (by kernel_rfl) .i64 (n : Int) (by omega) (by omega)]
  have e1 : (sizeOf (Try.prog.elem 23)).run Try.prog V = .ok 1 V := by kernel_rfl
  rw [e1]
  simp only [Result.andThen, sliced, Int.toNat_natCast]
  cases wa <;> simp [Addr.add]

attribute [local go_sem ↓] appS_eq
set_option maxRecDepth 100000 in
set_option maxHeartbeats 3200000 in
theorem cutEs_any (w : World) (a : Option Addr) (es : List En) (c n : Nat) (hE : EIn w a es) (hok : ∀ x, x ∈ es → EnOk w x ∧ x.o.ws.length ≤ x.wc) (hn : es.length ≤ 100000) (hw : ∀ x, x ∈ es → x.o.st = 0 → n ≤ x.o.ws.length) :
    Calls Try.prog 12 #[.slice a es.length c, .int .i64 n] w fun e w' => ∃ b d, e = .returned (.slice b (cutEs n es).length d) ∧ EIn w' b (cutEs n es) ∧ Below w.heap.size w w' := by
  have HI : Hid (∀ k, k < es.length → (es.getD k default).o.st = 0 → n ≤ (es.getD k default).o.ws.length ∧ (es.getD k default).o.ws.length ≤ (es.getD k default).wc ∧ (es.getD k default).o.ws.length ≤ 100000 ∧ ((es.getD k default).o.ws.take n).length = n) := fun k hk h0 => by
    have hm : es.getD k default ∈ es := by
      rw [List.getD_eq_getElem?_getD, List.getElem?_eq_getElem hk]; exact List.getElem_mem hk
    have h1 := hw _ hm h0
    exact ⟨h1, (hok _ hm).2, (hok _ hm).1.wl, by rw [List.length_take]; omega⟩
  have HE := Hid.out (p := Hid _) hE
  obtain ⟨m, hm⟩ : ∃ m, es.length = m := ⟨_, rfl⟩
  have HM : Hid (es.length = m) := hm
  rw [hm] at HI hn ⊢
  clear hE hok hw hm
  go_enter Try.func12, Try.ntmps12
  go_wp2
  go_loopw [5, 6] (fun out i wr => ∃ (k : Nat) (b : Option Addr) (len d : Nat), k ≤ m ∧ i = .int .i64 k ∧ out = .slice b len d ∧ len ≤ k ∧ Hid (IsO wr w.heap.size b len d (cutEs n (es.take k))) ∧ Below w.heap.size w wr) (fun _ i _ => m - (intOf i).toNat)
  case atStart => exact ⟨0, none, 0, 0, Nat.zero_le _, rfl, rfl, Nat.le_refl _, IsO.nil _ _, Below.refl _ _⟩
  case round =>
    obtain ⟨k, b, len, d, hk, rfl, rfl, hl, HJ, hbr⟩ := hrel
    by_cases hlt : k < m
    · obtain ⟨g, o, rfl, y0, y1, y2⟩ := EIn.below HE.out hbr k (by rw [HM.out]; exact hlt)
      have HT := Hid.out (p := Hid _) (cut_take (n := n) (es := es) (k := k) (by rw [HM.out]; exact hlt))
      have h0 := HI.out k hlt
      obtain ⟨x, hx⟩ : ∃ x, es.getD k default = x := ⟨_, rfl⟩
      rw [hx] at y0 y1 y2 HT h0
      clear hx
      by_cases hst : x.o.st = 0
      · obtain ⟨hw1, hw2, hw3, hw4⟩ := h0 hst
        rw [hst] at y0
        have HT2 : Hid (cutEs n (es.take (k + 1)) = cutEs n (es.take k) ++ [cutE n x]) := by have := HT.out; rw [if_pos hst] at this; exact this
        have hsl := slice_ints x.wa x.o.ws.length x.wc n (by omega)
        obtain ⟨g3, cap3, w3, hrun3, HS⟩ := HJ.out.push (W := wr.drew) (Below.refl _ _).drew hbr.size (by omega) (cutE n x) hbr.drew
        have hrun4 : (AppS #[40, 40] 40 #[.slice b len d, .slice (some ⟨wr.heap.size, 0, none⟩) 1 1]).run Try.prog (wr.alloc (.cells #[.int .i64 0, .slice x.wa n x.wc, .slice x.pa x.o.pr.length x.pc] 44)).drew = .ok (.slice (some ⟨g3, 0, none⟩) (len + 1) cap3) w3 := by
          have e : (cutE n x).o.ws.length = n := hw4
          rw [e] at hrun3
          exact hrun3
        have HJ2 : Hid (IsO w3 w.heap.size (some ⟨g3, 0, none⟩) (len + 1) cap3 (cutEs n (es.take (k + 1))) ∧ Below w.heap.size w w3) := by
          show IsO _ _ _ _ _ _ ∧ _
          rw [HT2.out]
          exact HS.out
        clear HT HI h0 HS hrun3 HJ HT2
        have u1 := cell_up y1
        have u2 := cell_up y2
        go_wp2_with fail
        go_region
        all_goals go_wp2
        all_goals go_roundw
        case rel => exact ⟨k + 1, _, _, _, by omega, by go_num, rfl, by omega, HJ2.out.1, HJ2.out.2⟩
        case measure => simp [intOf]; omega
      · have hst' : (x.o.st == 0) = false := by simpa using hst
        have HT2 : Hid (cutEs n (es.take (k + 1)) = cutEs n (es.take k)) := by have := HT.out; rw [if_neg hst] at this; exact this
        have HJ2 : Hid (IsO wr w.heap.size b len d (cutEs n (es.take (k + 1)))) := by show IsO _ _ _ _ _ _; rw [HT2.out]; exact HJ.out
        clear HT HT2 HJ h0 hst
        go_wp2
        go_roundw
        case rel => exact ⟨k + 1, _, _, _, by omega, by go_num, rfl, by omega, HJ2, hbr⟩
        case measure => simp [intOf]; omega
    · obtain rfl : k = m := by omega
      have HR : Hid (∃ b' d', (Ending.returned (.slice b len d) : Ending) = .returned (.slice b' (cutEs n es).length d') ∧ EIn wr b' (cutEs n es) ∧ Below w.heap.size w wr) := by
        have h1 := HJ.out
        rw [List.take_of_length_le (by rw [HM.out]; exact Nat.le_refl _)] at h1
        exact ⟨b, d, by rw [h1.is], iso_ein h1, hbr⟩
      go_wp2
      go_ret
      exact HR.out
end

section
open Go.RowKit

theorem ens_osin {w : World} {a : Option Addr} {es : List En} (h : EIn w a es) (hok : ∀ x, x ∈ es → EnOk w x) : OsIn w a (es.map En.o) := fun i hi => by
  have hi' : i < es.length := by simpa using hi
  obtain ⟨b, o, h1, h2, h3, h4⟩ := h i hi'
  have hx := hok _ (show es.getD i default ∈ es by rw [List.getD_eq_getElem?_getD, List.getElem?_eq_getElem hi']; exact List.getElem_mem hi')
  rw [map_getD hi']
  exact ⟨b, o, _, _, _, _, h1, h2, h3, h4, hx.ws, hx.pr⟩
theorem ens_obd {w : World} {es : List En} (hn : es.length ≤ 100000) (hok : ∀ x, x ∈ es → EnOk w x) : OBd (es.map En.o) := by
  refine ⟨by simpa using hn, fun o ho => ?_⟩
  obtain ⟨x, hx, rfl⟩ := List.mem_map.mp ho
  exact ⟨(hok x hx).wl, (hok x hx).pl⟩
/-- What Make tells, with where the outcomes' lists lie. -/
def MakeE (w : World) (L : Nat → Nat) (X : Nat → Nat → Nat → Int) (mode : Int) (s0 : Sx) (e : Ending) (w' : World) : Prop :=
  ∃ pb full ea ec es, e = .returned (.pointer (some ⟨pb, 0, none⟩)) ∧ Told (nxX L X mode) (outsX L X mode) s0 4000 full (es.map En.o) ∧ w'.cell? ⟨pb, 4, none⟩ = some (.slice ea es.length ec) ∧ w'.cell? ⟨pb, 5, none⟩ = some (.bool full) ∧ EIn w' ea es ∧ (∀ x, x ∈ es → EnOk w' x ∧ x.o.ws.length ≤ x.wc) ∧ es.length ≤ 100000 ∧ Below w.heap.size w w'
/-- What By tells, as Make tells it. -/
theorem by_toldE (w : World) (ca : Option Addr) (n cc : Nat) (wa : Option Addr) (wc lk rg : Nat) (mode : Int) (words : List Int) (A : Nat → Option Addr) (L C : Nat → Nat) (X : Nat → Nat → Nat → Int) (hw : SIs w wa words) (hn0 : 0 < n) (hc : COk n L X words.length lk rg) (hp : PIn w ca n A L C X) (hm : 0 ≤ mode) :
    Calls Try.prog 28 #[prgV ca n cc wa words.length wc lk rg, .int .i64 mode] w (MakeE w L X mode (beginX n words lk rg)) := by
  obtain ⟨c, hcd⟩ : ∃ c : Bc, c = ⟨⟨ca, n, cc, wa, words.length, wc, lk, rg, mode⟩, A, L, C, X, words.length, lk, rg, beginX n words lk rg⟩ := ⟨_, rfl⟩
  have hok : BcOk c w := by rw [hcd]; exact ⟨hn0, hc, hp, hm⟩
  refine Calls.mono (by_any w ca n cc wa wc lk rg mode words A L C X c _ hcd rfl hw hok) ?_
  rintro e w' ⟨pb, v, d, ea, ec, es, i, N, rfl, h1, h2, h3⟩
  have ht := (h1.told h3).1
  have hcnt := h1.cnt
  have c4 := h1.sp.c4
  have c5 := h1.sp.c5
  rw [h1.ends] at c4
  have hlow := h1.low
  have hb0 : Below w.heap.size w (w.alloc (boxQ ca n cc wa words.length wc lk rg)) := (Below.refl _ _).alloc (Nat.le_refl _) _
  rw [hcd] at ht
  exact ⟨pb, d.full, ea, ec, es, rfl, ht, c4, c5, h1.ein.ein, fun x hx => ⟨(h1.eok x hx).ok, (h1.eok x hx).cap⟩, by omega, hb0.trans (hlow.mono (by simp))⟩
set_option maxRecDepth 100000 in
set_option maxHeartbeats 800000 in
/-- Make. -/
theorem make_anyE (w : World) (b : Bool) (ca : Option Addr) (n cc : Nat) (wa : Option Addr) (wc lk rg : Nat) (words : List Int) (A : Nat → Option Addr) (L C : Nat → Nat) (X : Nat → Nat → Nat → Int) (hw : SIs w wa words) (hn0 : 0 < n) (hc : COk n L X words.length lk rg) (hp : PIn w ca n A L C X) :
    Calls Try.prog 11 #[prgV ca n cc wa words.length wc lk rg, .bool b] w (MakeE w L X (if b then 1 else 0) (beginX n words lk rg)) := by
  have HBY : Hid (∀ V mode, 0 ≤ mode → Below w.heap.size w V → Calls Try.prog 28 #[prgV ca n cc wa words.length wc lk rg, .int .i64 mode] V (MakeE V L X mode (beginX n words lk rg))) := fun V mode hm hb => by
    exact by_toldE V ca n cc wa wc lk rg mode words A L C X (hw.below hb) hn0 hc (hp.below hb) hm
  have HUP : Hid (∀ V mode e w', Below w.heap.size w V → MakeE V L X mode (beginX n words lk rg) e w' → MakeE w L X mode (beginX n words lk rg) e w') := fun V mode e w' hb ⟨pb, full, ea, ec, l, h1, h2, h3, h4, h5, h6, h7, h8⟩ => ⟨pb, full, ea, ec, l, h1, h2, h3, h4, h5, h6, h7, hb.trans (h8.mono hb.size)⟩
  obtain ⟨q, hq⟩ : ∃ q : Sx, beginX n words lk rg = q := ⟨_, rfl⟩
  obtain ⟨m, hm⟩ : ∃ m, words.length = m := ⟨_, rfl⟩
  rw [hq, hm] at HBY ⊢
  rw [hq] at HUP
  have HBB : Hid (∀ o, Below w.heap.size w (w.alloc o)) := fun o => (Below.refl _ _).alloc (Nat.le_refl _) _
  clear hw hn0 hc hp hq hm
  cases b with
  | true =>
    go_enter Try.func11, Try.ntmps11
    go_wp2_with fail
    refine Calls.mono (HBY.out _ 1 (by decide) (HBB.out _)) ?_
    intro e w1 h1
    have h2 := HUP.out _ _ _ _ (HBB.out _) h1
    obtain ⟨pb, full, ea, ec, l, rfl, h3⟩ := h2
    have H3 := Hid.out (p := Hid _) h3
    clear h1 h3
    go_wp2_with fail
    go_ret
    exact ⟨pb, full, ea, ec, l, rfl, H3.out⟩
  | false =>
    go_enter Try.func11, Try.ntmps11
    go_wp2_with fail
    refine Calls.mono (HBY.out _ 0 (by decide) (HBB.out _)) ?_
    intro e w1 h1
    have h2 := HUP.out _ _ _ _ (HBB.out _) h1
    obtain ⟨pb, full, ea, ec, l, rfl, h3⟩ := h2
    have H3 := Hid.out (p := Hid _) h3
    clear h1 h3
    go_wp2_with fail
    go_ret
    exact ⟨pb, full, ea, ec, l, rfl, H3.out⟩
end

end Go.Proofs.Ytefnmbnakphhfad
