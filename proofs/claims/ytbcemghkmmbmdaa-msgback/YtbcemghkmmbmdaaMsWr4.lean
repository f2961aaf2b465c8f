/-
  A message written; Put; Check.
-/
import Derived.Test.YtbcemghkmmbmdaaMsWr3
namespace Go.Proofs.Ytbcemghkmmbmdaa.Msg
open Go.RowKit Route Order

set_option maxHeartbeats 4000000 in
set_option maxRecDepth 100000 in
theorem wmessage_any {B p R : Nat} {l : List UInt8} {W0 w : World} {o : Option Nat} (h : Wx B p R l W0 w o) (hB : W0.heap.size ≤ B) (k f v s : Nat) (bd : ByteArray) (pl : List Pf) (cl : List Ch) (K : MsOk ⟨(k : Int), (f : Int), (v : Int), (s : Int), bd, pl, cl⟩) (a : Option Addr) (n cap : Nat) (hn : n = pl.length) (hl : LiesP W0 a pl) (a' : Option Addr) (n' cap' : Nat) (hn' : n' = cl.length) (hl' : LiesC W0 a' cl) (hlen : l.length ≤ 1000) (hR : 60000000 ≤ R) :
    Calls Try.prog 27 #[.pointer (some ⟨p, 0, none⟩), .agg #[.int .i64 (k : Int), .int .i64 (f : Int), .int .i64 (v : Int), .int .i64 (s : Int), .string bd, .slice a n cap, .slice a' n' cap']] w fun e w' => e = .returned (.tuple #[]) ∧ Hid (Wrote B p R (l ++ encM ⟨(k : Int), (f : Int), (v : Int), (s : Int), bd, pl, cl⟩) W0 w o w') := by
  have k1 := K.k
  have k2 := K.f
  have k3 := K.v
  have k4 := K.s
  have hb4 := K.b
  have k5 := K.pn
  have k6 := K.cn
  have hpl := K.p
  have hcl := K.c
  simp only at k1 k2 k3 k4 hb4 k5 k6 hpl hcl
  have k7 : (s : Int) ≤ 1000 := by split at k4 <;> omega
  have hn64 : n ≤ 64 := by omega
  have hn13 : n' ≤ 13 := by omega
  have d1 := digs_len10 (n := k) (by omega)
  have d2 := digs_len10 (n := f) (by omega)
  have d3 := digs_len10 (n := v) (by omega)
  have d4 := digs_len10 (n := s) (by omega)
  have d6 := digs_len10 (n := pl.length) (by omega)
  have d7 := flatP_len hpl
  have d5 : (txt bd).length ≤ 4106 := by
    have h1 := digs_len10 (n := bd.size) (by omega)
    have h2 : (txt bd).length = (digs bd.size).length + bd.size := by unfold txt; rw [List.length_append]; simp
    omega
  have HNn : Hid (n = pl.length) := hn
  have HNn' : Hid (n' = cl.length) := hn'
  clear K hn hn' k4
  obtain ⟨W1, hW1⟩ : ∃ W1, W1 = w.alloc (.cells #[.int .i64 (k : Int), .int .i64 (f : Int), .int .i64 (v : Int), .int .i64 (s : Int), .string bd, .slice a n cap, .slice a' n' cap'] 25) := ⟨_, rfl⟩
  have HW1 : Hid (W1 = _) := hW1
  have hx0 : Wx B p R l W0 W1 o := by rw [hW1]; exact h.below ((Below.refl _ _).alloc (Nat.le_refl _) _)
  have ht0 : Tw p o w o W1 := by rw [hW1]; exact Tw.of ((Below.refl _ _).alloc (Nat.le_refl _) _)
  have B0 : Bx p w.heap.size (.cells #[.int .i64 (k : Int), .int .i64 (f : Int), .int .i64 (v : Int), .int .i64 (s : Int), .string bd, .slice a n cap, .slice a' n' cap'] 25 (0, 0)) o W1 := by rw [hW1]; exact Bx.new h _
  clear h hW1
  have HC0 : Hid (Calls _ _ _ _ _) := wnum_any hx0 k (by omega) (by first | omega | (simp only [List.length_append]; omega)) hR
  obtain ⟨y0, y1, y2, y3, y4, y5, y6⟩ := seven7 B0.box
  have HX0 : Hid (Wx _ _ _ _ _ _ _ ∧ Tw p o w _ _ ∧ Bx _ _ _ _ _) := ⟨hx0, ht0, B0⟩
  clear hx0 ht0 B0
  go_enter Try.func27, Try.ntmps27
  go_wp2_with fail
  rw [← HW1.out]
  refine HC0.out.mono ?_
  rintro e w1 ⟨rfl, hw⟩
  obtain ⟨o1, hx1, htw⟩ := hw.out
  have ht1 : Tw p o w o1 w1 := HX0.out.2.1.trans htw
  have B1 := HX0.out.2.2.step htw
  clear hw HC0 HX0 htw y0 y1 y2 y3 y4 y5 y6
  have HC1 : Hid (Calls _ _ _ _ _) := wnum_any hx1 f (by omega) (by first | omega | (simp only [List.length_append]; omega)) hR
  obtain ⟨y0, y1, y2, y3, y4, y5, y6⟩ := seven7 B1.box
  have HX1 : Hid (Wx _ _ _ _ _ _ _ ∧ Tw p o w _ _ ∧ Bx _ _ _ _ _) := ⟨hx1, ht1, B1⟩
  clear hx1 ht1 B1
  go_wp2_with fail
  refine HC1.out.mono ?_
  rintro e w2 ⟨rfl, hw⟩
  obtain ⟨o2, hx2, htw⟩ := hw.out
  have ht2 : Tw p o w o2 w2 := HX1.out.2.1.trans htw
  have B2 := HX1.out.2.2.step htw
  clear hw HC1 HX1 htw y0 y1 y2 y3 y4 y5 y6
  have HC2 : Hid (Calls _ _ _ _ _) := wnum_any hx2 v (by omega) (by first | omega | (simp only [List.length_append]; omega)) hR
  obtain ⟨y0, y1, y2, y3, y4, y5, y6⟩ := seven7 B2.box
  have HX2 : Hid (Wx _ _ _ _ _ _ _ ∧ Tw p o w _ _ ∧ Bx _ _ _ _ _) := ⟨hx2, ht2, B2⟩
  clear hx2 ht2 B2
  go_wp2_with fail
  refine HC2.out.mono ?_
  rintro e w3 ⟨rfl, hw⟩
  obtain ⟨o3, hx3, htw⟩ := hw.out
  have ht3 : Tw p o w o3 w3 := HX2.out.2.1.trans htw
  have B3 := HX2.out.2.2.step htw
  clear hw HC2 HX2 htw y0 y1 y2 y3 y4 y5 y6
  have HC3 : Hid (Calls _ _ _ _ _) := wnum_any hx3 s (by omega) (by first | omega | (simp only [List.length_append]; omega)) hR
  obtain ⟨y0, y1, y2, y3, y4, y5, y6⟩ := seven7 B3.box
  have HX3 : Hid (Wx _ _ _ _ _ _ _ ∧ Tw p o w _ _ ∧ Bx _ _ _ _ _) := ⟨hx3, ht3, B3⟩
  clear hx3 ht3 B3
  go_wp2_with fail
  refine HC3.out.mono ?_
  rintro e w4 ⟨rfl, hw⟩
  obtain ⟨o4, hx4, htw⟩ := hw.out
  have ht4 : Tw p o w o4 w4 := HX3.out.2.1.trans htw
  have B4 := HX3.out.2.2.step htw
  clear hw HC3 HX3 htw y0 y1 y2 y3 y4 y5 y6
  have HC4 : Hid (Calls _ _ _ _ _) := wtext_any hx4 bd hb4 (by simp only [List.length_append]; omega) hR
  obtain ⟨y0, y1, y2, y3, y4, y5, y6⟩ := seven7 B4.box
  have HX4 : Hid (Wx _ _ _ _ _ _ _ ∧ Tw p o w _ _ ∧ Bx _ _ _ _ _) := ⟨hx4, ht4, B4⟩
  clear hx4 ht4 B4
  go_wp2_with fail
  refine HC4.out.mono ?_
  rintro e w5 ⟨rfl, hw⟩
  obtain ⟨o5, hx5, htw⟩ := hw.out
  have ht5 : Tw p o w o5 w5 := HX4.out.2.1.trans htw
  have B5 := HX4.out.2.2.step htw
  clear hw HC4 HX4 htw y0 y1 y2 y3 y4 y5 y6
  have HC5 : Hid (Calls _ _ _ _ _) := wlistP_any hx5 hB a n cap pl HNn.out hl hn64 hpl (by simp only [List.length_append]; omega) hR
  obtain ⟨y0, y1, y2, y3, y4, y5, y6⟩ := seven7 B5.box
  have HX5 : Hid (Wx _ _ _ _ _ _ _ ∧ Tw p o w _ _ ∧ Bx _ _ _ _ _) := ⟨hx5, ht5, B5⟩
  clear hx5 ht5 B5
  go_wp2_with fail
  refine HC5.out.mono ?_
  rintro e w6 ⟨rfl, hw⟩
  obtain ⟨o6, hx6, htw⟩ := hw.out
  have ht6 : Tw p o w o6 w6 := HX5.out.2.1.trans htw
  have B6 := HX5.out.2.2.step htw
  clear hw HC5 HX5 htw y0 y1 y2 y3 y4 y5 y6
  have HC6 : Hid (Calls _ _ _ _ _) := wlistC_any hx6 hB a' n' cap' cl HNn'.out hl' hn13 hcl (by simp only [List.length_append]; omega) hR
  obtain ⟨y0, y1, y2, y3, y4, y5, y6⟩ := seven7 B6.box
  have HX6 : Hid (Wx _ _ _ _ _ _ _ ∧ Tw p o w _ _ ∧ Bx _ _ _ _ _) := ⟨hx6, ht6, B6⟩
  clear hx6 ht6 B6
  go_wp2_with fail
  refine HC6.out.mono ?_
  rintro e w7 ⟨rfl, hw⟩
  obtain ⟨o7, hx7, htw⟩ := hw.out
  have ht7 : Tw p o w o7 w7 := HX6.out.2.1.trans htw
  have B7 := HX6.out.2.2.step htw
  clear hw HC6 HX6 htw y0 y1 y2 y3 y4 y5 y6
  have HF : Hid (Wrote B p R (l ++ encM ⟨(k : Int), (f : Int), (v : Int), (s : Int), bd, pl, cl⟩) W0 w o w7) := ⟨o7, hx7.app (by simp [encM, encPs]), ht7⟩
  clear hx7 ht7 B7
  go_wp2
  go_end0
  exact ⟨rfl, HF.out⟩

/-- A message that may be fits. -/
theorem MsOk.fit {m : Ms} (h : MsOk m) : Fit m := by
  have fp : ∀ l : List Pf, (∀ x ∈ l, PfOk x) → FitP l := fun l hl e he => ⟨by have := (hl e he).b; omega, by have := (hl e he).n; omega⟩
  exact ⟨by have := h.b; omega, by have := h.pn; omega, fp _ h.p, by have := h.cn; omega, fun e he => ⟨by have := (h.c e he).n; omega, fp _ (h.c e he).p⟩⟩

theorem check_any (m : Ms) (a : Option Addr) (n c : Nat) (a' : Option Addr) (n' c' : Nat) (w : World) (hM : MsIn w m a n a' n') (hF : Fit m) :
    Calls Try.prog 11 #[.agg (msV m a n c a' n' c')] w fun e w' => e = .returned (if mayB m then .nilIface else .iface 34 (.int .i64 1)) ∧ Below w.heap.size w w' := by
  obtain ⟨k, f, v, s, bd, pl, cl⟩ := m
  show Calls Try.prog 11 #[.agg #[.int .i64 k, .int .i64 f, .int .i64 v, .int .i64 s, .string bd, .slice a n c, .slice a' n' c']] w _
  obtain ⟨W1, hW1⟩ : ∃ W1, W1 = w.alloc (.cells #[.int .i64 k, .int .i64 f, .int .i64 v, .int .i64 s, .string bd, .slice a n c, .slice a' n' c'] 25) := ⟨_, rfl⟩
  have HW1 : Hid (W1 = _) := hW1
  have hB1 : Below w.heap.size w W1 := by rw [hW1]; exact (Below.refl _ _).alloc (Nat.le_refl _) _
  have HB1 : Hid (Below w.heap.size w W1) := hB1
  have HC : Hid (Calls _ _ _ _ _) := mayBe_any ⟨k, f, v, s, bd, pl, cl⟩ a n c a' n' c' W1 (hM.below hB1 (Nat.le_refl _)) hF
  obtain ⟨y0, y1, y2, y3, y4, y5, y6⟩ := seven7 (show W1.heap[w.heap.size]? = _ by rw [hW1]; exact box_new _ _ _)
  clear hM hF hW1 hB1
  generalize mayB ⟨k, f, v, s, bd, pl, cl⟩ = b at *
  go_enter Try.func11, Try.ntmps11
  go_wp2_with fail
  rw [← HW1.out]
  go_wp2_with fail
  refine HC.out.mono ?_
  rintro e w2 ⟨rfl, hb⟩
  have HB2 : Hid (Below w.heap.size w w2) := HB1.out.trans (hb.mono HB1.out.size)
  clear hb HC
  cases b with
  | true =>
    go_wp2
    go_ret
    exact ⟨rfl, HB2.out⟩
  | false =>
    go_wp2
    go_ret
    exact ⟨rfl, HB2.out⟩
end Go.Proofs.Ytbcemghkmmbmdaa.Msg
