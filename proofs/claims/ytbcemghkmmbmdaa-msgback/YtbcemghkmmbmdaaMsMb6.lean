/-
  Whether a message may be: a way through.
-/
import Derived.Test.YtbcemghkmmbmdaaMsMay2
namespace Go.Proofs.Ytbcemghkmmbmdaa.Msg
open Go.RowKit Route

set_option maxHeartbeats 8000000 in
set_option maxRecDepth 100000 in
theorem mayBe_6 (m : Ms) (a : Option Addr) (n c : Nat) (a' : Option Addr) (n' c' : Nat) (w : World) (hM : MsIn w m a n a' n') (hF : Fit m) (h1 : (isIn m.k 1 7) = true) (h2 : (nodeB m.f) = true) (h3 : (isIn m.v 0 64) = true) (h4 : (isIn m.s 0 (if m.k = 7 then 1000 else 64)) = true) (h5 : (decide (m.b.size ≤ 4096)) = true) (h6 : (pfsB m.p (if m.k = 5 then 64 else 0 : Int).toNat) = false) :
    Calls Try.prog 26 #[.agg (msV m a n c a' n' c')] w fun e w' => e = .returned (.bool (mayB m)) ∧ Below w.heap.size w w' := by
  obtain ⟨k, f, v, s, b, p, ch⟩ := m
  obtain ⟨hn, hp, hn', hc⟩ := hM
  unfold Fit at hF
  simp only at hn hp hn' hc hF h1 h2 h3 h4 h5 h6
  show Calls Try.prog 26 #[.agg #[.int .i64 k, .int .i64 f, .int .i64 v, .int .i64 s, .string b, .slice a n c, .slice a' n' c']] w _
  obtain ⟨W1, hW1⟩ : ∃ W1, W1 = w.alloc (.cells #[.int .i64 k, .int .i64 f, .int .i64 v, .int .i64 s, .string b, .slice a n c, .slice a' n' c'] 25) := ⟨_, rfl⟩
  have HW1 : Hid (W1 = _) := hW1
  have hB1 : Below w.heap.size w W1 := by rw [hW1]; exact (Below.refl _ _).alloc (Nat.le_refl _) _
  have HB1 : Hid (Below w.heap.size w W1) := hB1
  obtain ⟨y0, y1, y2, y3, y4, y5, y6⟩ := seven7 (show W1.heap[w.heap.size]? = _ by rw [hW1]; exact box_new _ _ _)
  have HMB : Hid (mayB ⟨k, f, v, s, b, p, ch⟩ = (isIn k 1 7 && (nodeB f && (isIn v 0 64 && (isIn s 0 (if k = 7 then 1000 else 64) && (decide (b.size ≤ 4096) && (pfsB p (if k = 5 then 64 else 0 : Int).toNat && (decide (ch.length ≤ (if k = 6 then 13 else 0 : Int).toNat) && ch.all chB)))))))) := by
    show _ = _
    unfold mayB
    simp only
    have e5 : (if k = 5 then 64 else 0 : Int).toNat = if k = 5 then 64 else 0 := by split <;> rfl
    have e6 : (if k = 6 then 13 else 0 : Int).toNat = if k = 6 then 13 else 0 := by split <;> rfl
    rw [e5, e6]
    rfl
  have hx6 : (0 : Int) ≤ (if k = 5 then 64 else 0) ∧ (if k = 5 then 64 else 0 : Int) ≤ 1000 := by split <;> omega
  have hx7 : (0 : Int) ≤ (if k = 6 then 13 else 0) ∧ (if k = 6 then 13 else 0 : Int) ≤ 1000 := by split <;> omega
  have m4 := mostSeq_any k
  have m6 := mostProofs_any k
  have m7 := mostChanges_any k
  have HC1 : Hid (∀ W, MBox W1 w.heap.size k f v s b (.slice a n c) (.slice a' n' c') W → Calls Try.prog 47 #[.int .i64 k, .int .i64 1, .int .i64 7] W fun e w2 => e = .returned (.bool (isIn k 1 7)) ∧ MBox W1 w.heap.size k f v s b (.slice a n c) (.slice a' n' c') w2) := fun W hS => by
    refine (isWithin_any k 1 7 W).mono ?_
    rintro e w2 ⟨rfl, hb⟩
    subst hb
    exact ⟨rfl, hS⟩
  have HC2 : Hid (∀ W, MBox W1 w.heap.size k f v s b (.slice a n c) (.slice a' n' c') W → Calls Try.prog 48 #[.int .i64 f] W fun e w2 => e = .returned (.bool (nodeB f)) ∧ MBox W1 w.heap.size k f v s b (.slice a n c) (.slice a' n' c') w2) := fun W hS => by
    refine (isNode_any f W).mono ?_
    rintro e w2 ⟨rfl, hb⟩
    subst hb
    exact ⟨rfl, hS⟩
  have HC3 : Hid (∀ W, MBox W1 w.heap.size k f v s b (.slice a n c) (.slice a' n' c') W → Calls Try.prog 49 #[.int .i64 v] W fun e w2 => e = .returned (.bool (isIn v 0 64)) ∧ MBox W1 w.heap.size k f v s b (.slice a n c) (.slice a' n' c') w2) := fun W hS => by
    refine (isView_any v W).mono ?_
    rintro e w2 ⟨rfl, hb⟩
    subst hb
    exact ⟨rfl, hS⟩
  have HC4a : Hid (∀ W, MBox W1 w.heap.size k f v s b (.slice a n c) (.slice a' n' c') W → Calls Try.prog 50 #[.int .i64 k] W fun e w2 => e = .returned (.int .i64 (if k = 7 then 1000 else 64)) ∧ MBox W1 w.heap.size k f v s b (.slice a n c) (.slice a' n' c') w2) := fun W hS => by
    refine (mostSeq_any k W).mono ?_
    rintro e w2 ⟨rfl, hb⟩
    subst hb
    exact ⟨rfl, hS⟩
  have HC4 : Hid (∀ W, MBox W1 w.heap.size k f v s b (.slice a n c) (.slice a' n' c') W → Calls Try.prog 47 #[.int .i64 s, .int .i64 0, .int .i64 (if k = 7 then 1000 else 64)] W fun e w2 => e = .returned (.bool (isIn s 0 (if k = 7 then 1000 else 64))) ∧ MBox W1 w.heap.size k f v s b (.slice a n c) (.slice a' n' c') w2) := fun W hS => by
    refine (isWithin_any s 0 (if k = 7 then 1000 else 64) W).mono ?_
    rintro e w2 ⟨rfl, hb⟩
    subst hb
    exact ⟨rfl, hS⟩
  have HC5 : Hid (∀ W, MBox W1 w.heap.size k f v s b (.slice a n c) (.slice a' n' c') W → Calls Try.prog 51 #[.string b] W fun e w2 => e = .returned (.bool (decide (b.size ≤ 4096))) ∧ MBox W1 w.heap.size k f v s b (.slice a n c) (.slice a' n' c') w2) := fun W hS => by
    refine (isBody_any b hF.1 W).mono ?_
    rintro e w2 ⟨rfl, hb⟩
    subst hb
    exact ⟨rfl, hS⟩
  have HC6a : Hid (∀ W, MBox W1 w.heap.size k f v s b (.slice a n c) (.slice a' n' c') W → Calls Try.prog 53 #[.int .i64 k] W fun e w2 => e = .returned (.int .i64 (if k = 5 then 64 else 0)) ∧ MBox W1 w.heap.size k f v s b (.slice a n c) (.slice a' n' c') w2) := fun W hS => by
    refine (mostProofs_any k W).mono ?_
    rintro e w2 ⟨rfl, hb⟩
    subst hb
    exact ⟨rfl, hS⟩
  have HC6 : Hid (∀ W, MBox W1 w.heap.size k f v s b (.slice a n c) (.slice a' n' c') W → Calls Try.prog 52 #[.slice a n c, .int .i64 (if k = 5 then 64 else 0), .func (.func 54) #[] #[]] W fun e w2 => e = .returned (.bool (pfsB p (if k = 5 then 64 else 0 : Int).toNat)) ∧ MBox W1 w.heap.size k f v s b (.slice a n c) (.slice a' n' c') w2) := fun W hS => by
    refine (allP_any a n c p (if k = 5 then 64 else 0) W hn (hp.below (hB1.trans (hS.bel.mono hB1.size)) (Nat.le_refl _)) (by rw [hn]; exact hF.2.1) hx6.1 hx6.2 hF.2.2.1).mono ?_
    rintro e w2 ⟨rfl, hb⟩
    exact ⟨rfl, hS.later hb⟩
  have HC7a : Hid (∀ W, MBox W1 w.heap.size k f v s b (.slice a n c) (.slice a' n' c') W → Calls Try.prog 56 #[.int .i64 k] W fun e w2 => e = .returned (.int .i64 (if k = 6 then 13 else 0)) ∧ MBox W1 w.heap.size k f v s b (.slice a n c) (.slice a' n' c') w2) := fun W hS => by
    refine (mostChanges_any k W).mono ?_
    rintro e w2 ⟨rfl, hb⟩
    subst hb
    exact ⟨rfl, hS⟩
  have HC7 : Hid (∀ W, MBox W1 w.heap.size k f v s b (.slice a n c) (.slice a' n' c') W → Calls Try.prog 55 #[.slice a' n' c', .int .i64 (if k = 6 then 13 else 0), .func (.func 57) #[] #[]] W fun e w2 => e = .returned (.bool (decide (ch.length ≤ (if k = 6 then 13 else 0 : Int).toNat) && ch.all chB)) ∧ MBox W1 w.heap.size k f v s b (.slice a n c) (.slice a' n' c') w2) := fun W hS => by
    refine (allC_any a' n' c' ch (if k = 6 then 13 else 0) W hn' (hc.below (hB1.trans (hS.bel.mono hB1.size)) (Nat.le_refl _)) (by rw [hn']; exact hF.2.2.2.1) hx7.1 hx7.2 hF.2.2.2.2).mono ?_
    rintro e w2 ⟨rfl, hb⟩
    exact ⟨rfl, hS.later hb⟩
  clear hx6 hx7 m4 m6 m7 hn hp hn' hc hF hW1 hB1
  have HS1 : Hid (MBox W1 w.heap.size k f v s b (.slice a n c) (.slice a' n' c') W1.drew) := ⟨(Below.refl _ _).drew, by simpa using y0, by simpa using y1, by simpa using y2, by simpa using y3, by simpa using y4, by simpa using y5, by simpa using y6⟩
  clear y0 y1 y2 y3 y4 y5 y6
  generalize hR : mayB ⟨k, f, v, s, b, p, ch⟩ = R at *
  have HR : Hid (R = _) := HMB.out
  clear HMB hR
  generalize (decide (ch.length ≤ (if k = 6 then 13 else 0 : Int).toNat) && ch.all chB) = b7 at *
  generalize pfsB p (if k = 5 then 64 else 0 : Int).toNat = b6 at *
  generalize decide (b.size ≤ 4096) = b5 at *
  generalize isIn s 0 (if k = 7 then 1000 else 64) = b4 at *
  generalize isIn v 0 64 = b3 at *
  generalize nodeB f = b2 at *
  generalize isIn k 1 7 = b1 at *
  generalize (if k = 7 then 1000 else 64 : Int) = x4 at *
  generalize (if k = 5 then 64 else 0 : Int) = x6 at *
  generalize (if k = 6 then 13 else 0 : Int) = x7 at *
  obtain rfl : b1 = true := h1
  obtain rfl : b2 = true := h2
  obtain rfl : b3 = true := h3
  obtain rfl : b4 = true := h4
  obtain rfl : b5 = true := h5
  obtain rfl : b6 = false := h6
  go_enter Try.func26, Try.ntmps26
  go_wp2_with fail
  rw [← HW1.out]
  refine wp_region_class (C := MBox W1 w.heap.size k f v s b (.slice a n c) (.slice a' n' c')) (by kernel_rfl) (by kernel_rfl) HS1.out ?_
  repeat (go_big_quiet_step ((intro hW; first | exact rfl | exact ⟨rfl, rfl⟩ | with_reducible exact HC1.out _ hW | with_reducible exact HC2.out _ hW | with_reducible exact HC3.out _ hW | with_reducible exact HC4a.out _ hW | with_reducible exact HC4.out _ hW | with_reducible exact HC5.out _ hW | with_reducible exact HC6a.out _ hW | with_reducible exact HC6.out _ hW | with_reducible exact HC7a.out _ hW | with_reducible exact HC7.out _ hW | (have hc0 := hW.c0; have hc1 := hW.c1; have hc2 := hW.c2; have hc3 := hW.c3; have hc4 := hW.c4; have hc5 := hW.c5; have hc6 := hW.c6; go_simp; first | done | exact rfl))))
  refine wpQuiet_nil ?_
  intro w2 hw2
  have HBF : Hid (Below w.heap.size w w2) := HB1.out.trans (hw2.bel.mono HB1.out.size)
  go_wp2
  go_ret
  exact ⟨by rw [HR.out]; rfl, HBF.out⟩
end Go.Proofs.Ytbcemghkmmbmdaa.Msg
