/-
  Proofs, changes, a message written; Put.
-/
import Derived.Test.YtbcemghkmmbmdaaMsWr2
namespace Go.Proofs.Ytbcemghkmmbmdaa.Msg
open Go.RowKit Route Order

/-- A box beside a writer. -/
structure Bx (p b : Nat) (ob : Obj) (o : Option Nat) (w : World) : Prop where
  box : w.heap[b]? = some ob
  np : b ≠ p
  no : some b ≠ o
theorem Bx.step {p b : Nat} {ob : Obj} {o o' : Option Nat} {w w' : World} (h : Bx p b ob o w) (ht : Tw p o w o' w') : Bx p b ob o' w' := by
  have hb := (Array.getElem?_eq_some_iff.1 h.box).1
  refine ⟨(ht.block b hb h.np h.no).trans h.box, h.np, ?_⟩
  rcases ht.own with e | e
  · rw [e]; exact h.no
  · intro e2; have := e b e2.symm; omega
theorem Bx.new {B p R : Nat} {l : List UInt8} {W0 w : World} {o : Option Nat} (h : Wx B p R l W0 w o) (ob : Obj) : Bx p w.heap.size ob o (w.alloc ob) :=
  ⟨heap_alloc_new w ob, by have := h.lt; omega, fun e => by have := h.olt _ e.symm; omega⟩

set_option maxHeartbeats 4000000 in
set_option maxRecDepth 100000 in
theorem wproof_any {B p R : Nat} {l : List UInt8} {W0 w : World} {o : Option Nat} (h : Wx B p R l W0 w o) (hB : W0.heap.size ≤ B) (v s : Nat) (bd : ByteArray) (fr : List Int) (K : PfOk ((v : Int), (s : Int), bd, fr)) (a : Option Addr) (n cap : Nat) (hn : n = fr.length) (hl : LiesI W0 a fr) (hlen : l.length ≤ 30000000) (hR : 60000000 ≤ R) :
    Calls Try.prog 61 #[.pointer (some ⟨p, 0, none⟩), .agg #[.int .i64 (v : Int), .int .i64 (s : Int), .string bd, .slice a n cap]] w fun e w' => e = .returned (.tuple #[]) ∧ Hid (Wrote B p R (l ++ encP ((v : Int), (s : Int), bd, fr)) W0 w o w') := by
  have k1 := K.v
  have k2 := K.s
  have hb4 := K.b
  have k4 := K.n
  have hfr := K.f
  simp only at k1 k2 hb4 k4 hfr
  have hn13 : n ≤ 13 := by omega
  have d1 := digs_len10 (n := v) (by omega)
  have d2 := digs_len10 (n := s) (by omega)
  have d3 : (txt bd).length ≤ 4106 := by
    have h1 := digs_len10 (n := bd.size) (by omega)
    have h2 : (txt bd).length = (digs bd.size).length + bd.size := by unfold txt; rw [List.length_append]; simp
    omega
  have HNn : Hid (n = fr.length) := hn
  clear K hn
  obtain ⟨W1, hW1⟩ : ∃ W1, W1 = w.alloc (.cells #[.int .i64 (v : Int), .int .i64 (s : Int), .string bd, .slice a n cap] 89) := ⟨_, rfl⟩
  have HW1 : Hid (W1 = _) := hW1
  have hx0 : Wx B p R l W0 W1 o := by rw [hW1]; exact h.below ((Below.refl _ _).alloc (Nat.le_refl _) _)
  have ht0 : Tw p o w o W1 := by rw [hW1]; exact Tw.of ((Below.refl _ _).alloc (Nat.le_refl _) _)
  have B0 : Bx p w.heap.size (.cells #[.int .i64 (v : Int), .int .i64 (s : Int), .string bd, .slice a n cap] 89 (0, 0)) o W1 := by rw [hW1]; exact Bx.new h _
  clear h hW1
  have HC0 : Hid (Calls _ _ _ _ _) := wnum_any hx0 v (by omega) (by first | omega | (simp only [List.length_append]; omega)) hR
  obtain ⟨y0, y1, y2, y3⟩ := four4 B0.box
  have HX0 : Hid (Wx _ _ _ _ _ _ _ ∧ Tw p o w _ _ ∧ Bx _ _ _ _ _) := ⟨hx0, ht0, B0⟩
  clear hx0 ht0 B0
  go_enter Try.func61, Try.ntmps61
  go_wp2_with fail
  rw [← HW1.out]
  refine HC0.out.mono ?_
  rintro e w1 ⟨rfl, hw⟩
  obtain ⟨o1, hx1, htw⟩ := hw.out
  have ht1 : Tw p o w o1 w1 := HX0.out.2.1.trans htw
  have B1 := HX0.out.2.2.step htw
  clear hw HC0 HX0 htw y0 y1 y2 y3
  have HC1 : Hid (Calls _ _ _ _ _) := wnum_any hx1 s (by omega) (by first | omega | (simp only [List.length_append]; omega)) hR
  obtain ⟨y0, y1, y2, y3⟩ := four4 B1.box
  have HX1 : Hid (Wx _ _ _ _ _ _ _ ∧ Tw p o w _ _ ∧ Bx _ _ _ _ _) := ⟨hx1, ht1, B1⟩
  clear hx1 ht1 B1
  go_wp2_with fail
  refine HC1.out.mono ?_
  rintro e w2 ⟨rfl, hw⟩
  obtain ⟨o2, hx2, htw⟩ := hw.out
  have ht2 : Tw p o w o2 w2 := HX1.out.2.1.trans htw
  have B2 := HX1.out.2.2.step htw
  clear hw HC1 HX1 htw y0 y1 y2 y3
  have HC2 : Hid (Calls _ _ _ _ _) := wtext_any hx2 bd hb4 (by first | omega | (simp only [List.length_append]; omega)) hR
  obtain ⟨y0, y1, y2, y3⟩ := four4 B2.box
  have HX2 : Hid (Wx _ _ _ _ _ _ _ ∧ Tw p o w _ _ ∧ Bx _ _ _ _ _) := ⟨hx2, ht2, B2⟩
  clear hx2 ht2 B2
  go_wp2_with fail
  refine HC2.out.mono ?_
  rintro e w3 ⟨rfl, hw⟩
  obtain ⟨o3, hx3, htw⟩ := hw.out
  have ht3 : Tw p o w o3 w3 := HX2.out.2.1.trans htw
  have B3 := HX2.out.2.2.step htw
  clear hw HC2 HX2 htw y0 y1 y2 y3
  have HC3 : Hid (Calls _ _ _ _ _) := wlistI_any hx3 hB a n cap fr HNn.out hl hn13 hfr (by first | omega | (simp only [List.length_append]; omega)) hR
  obtain ⟨y0, y1, y2, y3⟩ := four4 B3.box
  have HX3 : Hid (Wx _ _ _ _ _ _ _ ∧ Tw p o w _ _ ∧ Bx _ _ _ _ _) := ⟨hx3, ht3, B3⟩
  clear hx3 ht3 B3
  go_wp2_with fail
  refine HC3.out.mono ?_
  rintro e w4 ⟨rfl, hw⟩
  obtain ⟨o4, hx4, htw⟩ := hw.out
  have ht4 : Tw p o w o4 w4 := HX3.out.2.1.trans htw
  have B4 := HX3.out.2.2.step htw
  clear hw HC3 HX3 htw y0 y1 y2 y3
  have HF : Hid (Wrote B p R (l ++ encP ((v : Int), (s : Int), bd, fr)) W0 w o w4) := ⟨o4, hx4.app (by simp [encP]), ht4⟩
  clear hx4 ht4 B4
  go_wp2
  go_end0
  exact ⟨rfl, HF.out⟩

set_option maxHeartbeats 4000000 in
set_option maxRecDepth 100000 in
theorem wlistP_any {B p R : Nat} {l : List UInt8} {W0 w : World} {o : Option Nat} (h : Wx B p R l W0 w o) (hB : W0.heap.size ≤ B) (a : Option Addr) (n cap : Nat) (L : List Pf) (hn : n = L.length) (hl : LiesP W0 a L) (hm : n ≤ 64) (hL : ∀ x ∈ L, PfOk x) (hlen : l.length ≤ 20000000) (hR : 60000000 ≤ R) :
    Calls Try.prog 60 #[.pointer (some ⟨p, 0, none⟩), .slice a n cap, .func (.func 61) #[.pointer (some ⟨p, 0, none⟩)] #[]] w fun e w' => e = .returned (.tuple #[]) ∧ Hid (Wrote B p R (l ++ (digs L.length ++ flatP L)) W0 w o w') := by
  have HN : Hid (n = L.length) := hn
  have HL : Hid (LiesP W0 a L) := hl
  have HK : Hid (∀ x ∈ L, PfOk x) := hL
  have HC : Hid (Calls _ _ _ _ _) := wnum_any h n (by omega) (by omega) hR
  have hd := digs_len10 (n := n) (by omega)
  clear hn hl hL h
  go_enter Try.func60, Try.ntmps60
  go_wp2_with fail
  refine HC.out.mono ?_
  rintro e w1 ⟨rfl, hw⟩
  have HI : Hid (Wrote B p R (l ++ (digs n ++ flatP (L.take 0))) W0 w o w1) := by show Wrote _ _ _ _ _ _ _ _; rw [show l ++ (digs n ++ flatP (L.take 0)) = l ++ digs n by simp [flatP]]; exact hw.out
  clear hw HC
  go_wp2
  go_loopw [14] (fun t14 wr => ∃ i : Nat, t14 = .int .i64 (i : Int) ∧ i ≤ n ∧ Hid (Wrote B p R (l ++ (digs n ++ flatP (L.take i))) W0 w o wr)) (fun t14 _ => n - (intOf t14).toNat)
  case atStart => exact ⟨0, rfl, Nat.zero_le _, HI⟩
  case round =>
    clear HI
    obtain ⟨i, rfl, hi, HI⟩ := hrel
    obtain ⟨o1, hx, ht⟩ := HI.out
    have g2 := hx.good
    by_cases hin : i < n
    · have hil : i < L.length := by rw [← HN.out]; exact hin
      obtain ⟨x, hx0, g0, g1, g2, fa, fc, g9, hf⟩ := (HL.out.below hx.bel hB).at hil
      obtain ⟨x', hx0', hent⟩ := HL.out.at hil
      subst hx0
      simp only [Option.some.injEq] at hx0'
      subst hx0'
      have hix := index_pf x n cap i hin
      rw [pfAt_get hil] at g0 g1 g2 g9 hent
      have hv := HK.out _ (List.getElem_mem hil)
      have HT : Hid (flatP (L.take (i + 1)) = flatP (L.take i) ++ encP L[i]) := flatP_take hil
      have hnl := flatP_len (l := L.take i) fun y hy => HK.out y (List.mem_of_mem_take hy)
      rw [List.length_take] at hnl
      generalize x.add (i * 4) = q at g0 g1 g2 g9 hix hent
      generalize L[i] = v at g0 g1 g2 g9 hf hv HT hent
      obtain ⟨v0, v1, bd, fr⟩ := v
      obtain ⟨-, -, -, ka, kc, e9, hf0⟩ := hent
      simp only at g0 g1 g2 g9 hf e9 hf0
      have e3 := (cell_below hx.bel hB e9).symm.trans g9
      simp only [Option.some.injEq, Value.slice.injEq] at e3
      obtain ⟨rfl, -, rfl⟩ := e3
      have k1 := hv.v
      have k2 := hv.s
      simp only at k1 k2
      obtain ⟨z0, rfl⟩ : ∃ z : Nat, v0 = (z : Int) := ⟨v0.toNat, by omega⟩
      obtain ⟨z1, rfl⟩ : ∃ z : Nat, v1 = (z : Int) := ⟨v1.toNat, by omega⟩
      obtain ⟨fn, hfn⟩ : ∃ fn, fn = fr.length := ⟨_, rfl⟩
      rw [← hfn] at g9
      have hbl : Below wr.heap.size wr (wr.alloc (.cells #[.int .i64 (z0 : Int), .int .i64 (z1 : Int), .string bd, .slice ka fn kc] 89)) := (Below.refl _ _).alloc (Nat.le_refl _) _
      have HC : Hid (Calls _ _ _ _ _) := wproof_any (hx.below hbl) hB z0 z1 bd fr hv ka fn kc hfn hf0 (by simp only [List.length_append]; omega) hR
      have HTw : Hid (Tw p o w o1 (wr.alloc (.cells #[.int .i64 (z0 : Int), .int .i64 (z1 : Int), .string bd, .slice ka fn kc] 89))) := ht.trans (Tw.of hbl)
      have g4 := (hx.below hbl).good
      clear hx ht hnl hf hf0 hv hfn e9 hbl
      clear HI
      go_wp2_with (first | (go_at_call 61; refine HC.out.mono ?_; rintro e w2 ⟨rfl, hw⟩))
      have HW2 : Hid (Wrote B p R (l ++ (digs n ++ flatP (L.take (i + 1)))) W0 w o w2) := Wrote.then HTw.out hw.out (by rw [HT.out]; simp)
      clear hw
      go_roundw
      case rel => exact ⟨i + 1, by go_num, by omega, HW2⟩
      case measure => simp [intOf]; omega
    · have HF : Hid (Wrote B p R (l ++ (digs L.length ++ flatP L)) W0 w o wr) := by
        have := HI.out
        rw [List.take_of_length_le (by rw [← HN.out]; omega), HN.out] at this
        exact this
      clear hx ht HI
      go_wp2
      go_end0
      exact ⟨rfl, HF.out⟩

set_option maxHeartbeats 4000000 in
set_option maxRecDepth 100000 in
theorem wchange_any {B p R : Nat} {l : List UInt8} {W0 w : World} {o : Option Nat} (h : Wx B p R l W0 w o) (hB : W0.heap.size ≤ B) (v s : Nat) (fr : List Pf) (K : ChOk ((v : Int), (s : Int), fr)) (a : Option Addr) (n cap : Nat) (hn : n = fr.length) (hl : LiesP W0 a fr) (hlen : l.length ≤ 10000000) (hR : 60000000 ≤ R) :
    Calls Try.prog 63 #[.pointer (some ⟨p, 0, none⟩), .agg #[.int .i64 (v : Int), .int .i64 (s : Int), .slice a n cap]] w fun e w' => e = .returned (.tuple #[]) ∧ Hid (Wrote B p R (l ++ encC ((v : Int), (s : Int), fr)) W0 w o w') := by
  have k1 := K.f
  have k2 := K.v
  have k4 := K.n
  have hfr := K.p
  simp only at k1 k2 k4 hfr
  have hn64 : n ≤ 64 := by omega
  have d1 := digs_len10 (n := v) (by omega)
  have d2 := digs_len10 (n := s) (by omega)
  have HNn : Hid (n = fr.length) := hn
  clear K hn
  obtain ⟨W1, hW1⟩ : ∃ W1, W1 = w.alloc (.cells #[.int .i64 (v : Int), .int .i64 (s : Int), .slice a n cap] 61) := ⟨_, rfl⟩
  have HW1 : Hid (W1 = _) := hW1
  have hx0 : Wx B p R l W0 W1 o := by rw [hW1]; exact h.below ((Below.refl _ _).alloc (Nat.le_refl _) _)
  have ht0 : Tw p o w o W1 := by rw [hW1]; exact Tw.of ((Below.refl _ _).alloc (Nat.le_refl _) _)
  have B0 : Bx p w.heap.size (.cells #[.int .i64 (v : Int), .int .i64 (s : Int), .slice a n cap] 61 (0, 0)) o W1 := by rw [hW1]; exact Bx.new h _
  clear h hW1
  have HC0 : Hid (Calls _ _ _ _ _) := wnum_any hx0 v (by omega) (by first | omega | (simp only [List.length_append]; omega)) hR
  obtain ⟨y0, y1, y2⟩ := three3 B0.box
  have HX0 : Hid (Wx _ _ _ _ _ _ _ ∧ Tw p o w _ _ ∧ Bx _ _ _ _ _) := ⟨hx0, ht0, B0⟩
  clear hx0 ht0 B0
  go_enter Try.func63, Try.ntmps63
  go_wp2_with fail
  rw [← HW1.out]
  refine HC0.out.mono ?_
  rintro e w1 ⟨rfl, hw⟩
  obtain ⟨o1, hx1, htw⟩ := hw.out
  have ht1 : Tw p o w o1 w1 := HX0.out.2.1.trans htw
  have B1 := HX0.out.2.2.step htw
  clear hw HC0 HX0 htw y0 y1 y2
  have HC1 : Hid (Calls _ _ _ _ _) := wnum_any hx1 s (by omega) (by first | omega | (simp only [List.length_append]; omega)) hR
  obtain ⟨y0, y1, y2⟩ := three3 B1.box
  have HX1 : Hid (Wx _ _ _ _ _ _ _ ∧ Tw p o w _ _ ∧ Bx _ _ _ _ _) := ⟨hx1, ht1, B1⟩
  clear hx1 ht1 B1
  go_wp2_with fail
  refine HC1.out.mono ?_
  rintro e w2 ⟨rfl, hw⟩
  obtain ⟨o2, hx2, htw⟩ := hw.out
  have ht2 : Tw p o w o2 w2 := HX1.out.2.1.trans htw
  have B2 := HX1.out.2.2.step htw
  clear hw HC1 HX1 htw y0 y1 y2
  have HC2 : Hid (Calls _ _ _ _ _) := wlistP_any hx2 hB a n cap fr HNn.out hl hn64 hfr (by first | omega | (simp only [List.length_append]; omega)) hR
  obtain ⟨y0, y1, y2⟩ := three3 B2.box
  have HX2 : Hid (Wx _ _ _ _ _ _ _ ∧ Tw p o w _ _ ∧ Bx _ _ _ _ _) := ⟨hx2, ht2, B2⟩
  clear hx2 ht2 B2
  go_wp2_with fail
  refine HC2.out.mono ?_
  rintro e w3 ⟨rfl, hw⟩
  obtain ⟨o3, hx3, htw⟩ := hw.out
  have ht3 : Tw p o w o3 w3 := HX2.out.2.1.trans htw
  have B3 := HX2.out.2.2.step htw
  clear hw HC2 HX2 htw y0 y1 y2
  have HF : Hid (Wrote B p R (l ++ encC ((v : Int), (s : Int), fr)) W0 w o w3) := ⟨o3, hx3.app (by simp [encC, encPs]), ht3⟩
  clear hx3 ht3 B3
  go_wp2
  go_end0
  exact ⟨rfl, HF.out⟩

theorem flatC_len {l : List Ch} (h : ∀ x ∈ l, ChOk x) : (flatC l).length ≤ 330000 * l.length := by
  induction l with
  | nil => simp [flatC]
  | cons e r ih =>
    have h1 := encC_len (h e (List.mem_cons_self ..))
    have h2 := ih fun x hx => h x (List.mem_cons_of_mem _ hx)
    simp only [flatC, List.length_append, List.length_cons]
    omega

set_option maxHeartbeats 4000000 in
set_option maxRecDepth 100000 in
theorem wlistC_any {B p R : Nat} {l : List UInt8} {W0 w : World} {o : Option Nat} (h : Wx B p R l W0 w o) (hB : W0.heap.size ≤ B) (a : Option Addr) (n cap : Nat) (L : List Ch) (hn : n = L.length) (hl : LiesC W0 a L) (hm : n ≤ 13) (hL : ∀ x ∈ L, ChOk x) (hlen : l.length ≤ 1000000) (hR : 60000000 ≤ R) :
    Calls Try.prog 62 #[.pointer (some ⟨p, 0, none⟩), .slice a n cap, .func (.func 63) #[.pointer (some ⟨p, 0, none⟩)] #[]] w fun e w' => e = .returned (.tuple #[]) ∧ Hid (Wrote B p R (l ++ (digs L.length ++ flatC L)) W0 w o w') := by
  have HN : Hid (n = L.length) := hn
  have HL : Hid (LiesC W0 a L) := hl
  have HK : Hid (∀ x ∈ L, ChOk x) := hL
  have HC : Hid (Calls _ _ _ _ _) := wnum_any h n (by omega) (by omega) hR
  have hd := digs_len10 (n := n) (by omega)
  clear hn hl hL h
  go_enter Try.func62, Try.ntmps62
  go_wp2_with fail
  refine HC.out.mono ?_
  rintro e w1 ⟨rfl, hw⟩
  have HI : Hid (Wrote B p R (l ++ (digs n ++ flatC (L.take 0))) W0 w o w1) := by show Wrote _ _ _ _ _ _ _ _; rw [show l ++ (digs n ++ flatC (L.take 0)) = l ++ digs n by simp [flatC]]; exact hw.out
  clear hw HC
  go_wp2
  go_loopw [14] (fun t14 wr => ∃ i : Nat, t14 = .int .i64 (i : Int) ∧ i ≤ n ∧ Hid (Wrote B p R (l ++ (digs n ++ flatC (L.take i))) W0 w o wr)) (fun t14 _ => n - (intOf t14).toNat)
  case atStart => exact ⟨0, rfl, Nat.zero_le _, HI⟩
  case round =>
    clear HI
    obtain ⟨i, rfl, hi, HI⟩ := hrel
    obtain ⟨o1, hx, ht⟩ := HI.out
    have g2 := hx.good
    by_cases hin : i < n
    · have hil : i < L.length := by rw [← HN.out]; exact hin
      obtain ⟨x, hx0, g0, g1, fa, fc, g9, hf⟩ := (HL.out.below hx.bel hB).at hil
      obtain ⟨x', hx0', hent⟩ := HL.out.at hil
      subst hx0
      simp only [Option.some.injEq] at hx0'
      subst hx0'
      have hix := index_ch x n cap i hin
      rw [chAt_get hil] at g0 g1 g9 hent
      have hv := HK.out _ (List.getElem_mem hil)
      have HT : Hid (flatC (L.take (i + 1)) = flatC (L.take i) ++ encC L[i]) := flatC_take hil
      have hnl := flatC_len (l := L.take i) fun y hy => HK.out y (List.mem_of_mem_take hy)
      rw [List.length_take] at hnl
      generalize x.add (i * 3) = q at g0 g1 g9 hix hent
      generalize L[i] = v at g0 g1 g9 hf hv HT hent
      obtain ⟨v0, v1, fr⟩ := v
      obtain ⟨-, -, ka, kc, e9, hf0⟩ := hent
      simp only at g0 g1 g9 hf e9 hf0
      have e3 := (cell_below hx.bel hB e9).symm.trans g9
      simp only [Option.some.injEq, Value.slice.injEq] at e3
      obtain ⟨rfl, -, rfl⟩ := e3
      have k1 := hv.f
      have k2 := hv.v
      simp only at k1 k2
      obtain ⟨z0, rfl⟩ : ∃ z : Nat, v0 = (z : Int) := ⟨v0.toNat, by omega⟩
      obtain ⟨z1, rfl⟩ : ∃ z : Nat, v1 = (z : Int) := ⟨v1.toNat, by omega⟩
      obtain ⟨fn, hfn⟩ : ∃ fn, fn = fr.length := ⟨_, rfl⟩
      rw [← hfn] at g9
      have hbl : Below wr.heap.size wr (wr.alloc (.cells #[.int .i64 (z0 : Int), .int .i64 (z1 : Int), .slice ka fn kc] 61)) := (Below.refl _ _).alloc (Nat.le_refl _) _
      have HC : Hid (Calls _ _ _ _ _) := wchange_any (hx.below hbl) hB z0 z1 fr hv ka fn kc hfn hf0 (by simp only [List.length_append]; omega) hR
      have HTw : Hid (Tw p o w o1 (wr.alloc (.cells #[.int .i64 (z0 : Int), .int .i64 (z1 : Int), .slice ka fn kc] 61))) := ht.trans (Tw.of hbl)
      have g4 := (hx.below hbl).good
      clear hx ht hnl hf hf0 hv hfn e9 hbl
      clear HI
      go_wp2_with (first | (go_at_call 63; refine HC.out.mono ?_; rintro e w2 ⟨rfl, hw⟩))
      have HW2 : Hid (Wrote B p R (l ++ (digs n ++ flatC (L.take (i + 1)))) W0 w o w2) := Wrote.then HTw.out hw.out (by rw [HT.out]; simp)
      clear hw
      go_roundw
      case rel => exact ⟨i + 1, by go_num, by omega, HW2⟩
      case measure => simp [intOf]; omega
    · have HF : Hid (Wrote B p R (l ++ (digs L.length ++ flatC L)) W0 w o wr) := by
        have := HI.out
        rw [List.take_of_length_le (by rw [← HN.out]; omega), HN.out] at this
        exact this
      clear hx ht HI
      go_wp2
      go_end0
      exact ⟨rfl, HF.out⟩

end Go.Proofs.Ytbcemghkmmbmdaa.Msg
