/-
  The walk of OrderPuts.
-/
import Derived.Test.YtanlanolblbckaaOrLaw
import Derived.Test.YtanlanolblbckaaOrRef
import Derived.Deep.RegionHeld
namespace Go.Proofs.Ytanlanolblbckaa.Order
open Go.RowKit Route

/-- A box of a request in a world. -/
structure Bx1 (w W : World) (A : Array Value) : Prop where
  one : W.heap[w.heap.size]? = some (.cells A 26 (0, 0))
  bel : Below w.heap.size w W
theorem Bx1.start (w : World) (A : Array Value) : Bx1 w (w.alloc (.cells A 26)) A :=
  ⟨heap_alloc_new w _, (Below.refl _ _).alloc (Nat.le_refl _) _⟩
theorem Bx1.below {w W W' : World} {A : Array Value} (h : Bx1 w W A) (hb : Below W.heap.size W W') : Bx1 w W' A :=
  ⟨bcells h.one hb, h.bel.trans (hb.mono h.bel.size)⟩

set_option maxHeartbeats 4000000 in
set_option maxRecDepth 100000 in
theorem orderPuts_walk (r : Rq) (a : Option Addr) (kn cap : Nat) (w : World) (h : ReqAt w a kn cap r) :
    Calls Try.prog 3 #[.agg (rv r a kn cap)] w fun e w' => e = .returned (.bool true) ∧ Below w.heap.size w w' := by
  have HR : Hid (ReqAt w a kn cap r) := h
  have HU : Hid (∀ w, Calls _ _ _ _ _) := up_any
  have BX : Hid (Bx1 w _ (rv r a kn cap)) := Bx1.start w _
  clear h
  go_enter Try.func3, Try.ntmps3
  go_wp2_with fail
  refine (HU.out _).mono ?_
  rintro e w1 ⟨rfl, hb1⟩
  have BX1 : Hid (Bx1 w w1 (rv r a kn cap)) := BX.out.below hb1
  clear BX hb1 HU
  obtain ⟨x0, x1, x2, x3, x4, x5, x6⟩ := seven BX1.out.one
  have H1 : Hid (Calls _ _ _ _ _) := short_any r a kn cap w1 (HR.out.below BX1.out.bel)
  go_wp2_with fail
  refine H1.out.mono ?_
  rintro e w2 ⟨b2, rfl, hh⟩
  have BX2 : Hid (Bx1 w w2 (rv r a kn cap)) := BX1.out.below hh.out.2
  have HS1 : Hid (b2 = true → ShortR r) := hh.out.1
  clear x0 x1 x2 x3 x4 x5 x6 hh BX1 H1
  obtain ⟨x0, x1, x2, x3, x4, x5, x6⟩ := seven BX2.out.one
  cases b2 with
  | false =>
    go_wp2
    go_ret
    exact ⟨rfl, BX2.out.bel⟩
  | true =>
    have hr : ShortR r := HS1.out (by first | rfl | trivial)
    have HKR : Hid (∀ W, Below w.heap.size w W → KeysAt W a kn cap r.ks) := fun W hb => (HR.out.keys hr).below hb
    have HZ : Hid (r.nm.size ≤ 100000 ∧ r.pt.size ≤ 100000) := by
      have g1 := hr.1; have g2 := hr.2.1
      exact ⟨by omega, by omega⟩
    clear hr HS1 HR
    have q1 := eqNil
    have q2 := eqArg
    have H3 := check_any r a kn cap w2 HZ.out.1 HZ.out.2 (HKR.out _ BX2.out.bel)
    cases hm : may r with
    | false =>
      rw [hm, if_neg (by decide)] at H3
      have H3' : Hid (Calls _ _ _ _ _) := H3
      clear H3
      go_wp2_with fail
      refine H3'.out.mono ?_
      rintro e w3 ⟨rfl, hb3⟩
      have BX3 : Hid (Bx1 w w3 (rv r a kn cap)) := BX2.out.below hb3
      clear x0 x1 x2 x3 x4 x5 x6 hb3 BX2 H3'
      obtain ⟨x0, x1, x2, x3, x4, x5, x6⟩ := seven BX3.out.one
      have H4 : Hid (Calls _ _ _ _ _) := put_no r a kn cap w3 HZ.out.1 HZ.out.2 (HKR.out _ BX3.out.bel) hm
      go_wp2_with fail
      refine H4.out.mono ?_
      rintro e w4 ⟨rfl, hb4⟩
      have BX4 : Hid (Bx1 w w4 (rv r a kn cap)) := BX3.out.below hb4
      clear x0 x1 x2 x3 x4 x5 x6 hb4 BX3 H4
      obtain ⟨x0, x1, x2, x3, x4, x5, x6⟩ := seven BX4.out.one
      have H5 := refMay_any r a kn cap w4 HZ.out.1 HZ.out.2 (HKR.out _ BX4.out.bel)
      rw [hm] at H5
      have H5' : Hid (Calls _ _ _ _ _) := H5
      clear H5
      go_wp2_with fail
      refine H5'.out.mono ?_
      rintro e w5 ⟨rfl, hb5⟩
      go_wp2
      go_ret
      exact ⟨rfl, (BX4.out.below hb5).bel⟩
    | true =>
      rw [hm, if_pos rfl] at H3
      have H3' : Hid (Calls _ _ _ _ _) := H3
      clear H3
      go_wp2_with fail
      refine H3'.out.mono ?_
      rintro e w3 ⟨rfl, hb3⟩
      have BX3 : Hid (Bx1 w w3 (rv r a kn cap)) := BX2.out.below hb3
      clear x0 x1 x2 x3 x4 x5 x6 hb3 BX2 H3'
      obtain ⟨x0, x1, x2, x3, x4, x5, x6⟩ := seven BX3.out.one
      have H4 : Hid (Calls _ _ _ _ _) := put_ok r a kn cap w3 (HKR.out _ BX3.out.bel) hm
      obtain ⟨L5, hL5⟩ : ∃ L, L = (enc r).length := ⟨_, rfl⟩
      have E5 : Hid (L5 = (enc r).length) := hL5
      clear hL5
      go_wp2_with fail
      refine H4.out.mono ?_
      rintro e w4 ⟨v4, rfl, hb4⟩
      obtain ⟨a5, c5, rfl, _, _, hl4, _⟩ := hb4.form
      rw [← E5.out]
      have BX4 : Hid (Bx1 w w4 (rv r a kn cap)) := BX3.out.below hb4.2.1
      have HL4 : Hid (Lies w4 a5 (enc r)) := hl4
      clear x0 x1 x2 x3 x4 x5 x6 hb4 hl4 BX3 H4
      obtain ⟨x0, x1, x2, x3, x4, x5, x6⟩ := seven BX4.out.one
      have H5 := refMay_any r a kn cap w4 HZ.out.1 HZ.out.2 (HKR.out _ BX4.out.bel)
      rw [hm] at H5
      have H5' : Hid (Calls _ _ _ _ _) := H5
      clear H5
      go_wp2_with fail
      refine H5'.out.mono ?_
      rintro e w5 ⟨rfl, hb5⟩
      have BX5 : Hid (Bx1 w w5 (rv r a kn cap)) := BX4.out.below hb5
      have HL5 : Hid (Lies w5 a5 (enc r)) := HL4.out.below hb5 (Nat.le_refl _)
      obtain ⟨D, hD⟩ : ∃ D : ByteArray, D = ⟨(enc r).toArray⟩ := ⟨_, rfl⟩
      have HCV : Hid (∀ W, Below w5.heap.size w5 W → (convert 32 9 (.slice a5 L5 c5)).run Try.prog W = .ok (.string D) W) := fun W hb => by
        rw [E5.out, hD]; exact conv_lies (HL5.out.below hb (Nat.le_refl _))
      have HS : Hid (∀ W, Below w5.heap.size w5 W → (fun W => Below w5.heap.size w5 W ∧ (convert 32 9 (.slice a5 L5 c5)).run Try.prog W = .ok (.string D) W ∧ W.cell? ⟨w.heap.size, 0, none⟩ = some (.int .i64 r.c) ∧ W.cell? ⟨w.heap.size, 1, none⟩ = some (.int .i64 r.t) ∧ W.cell? ⟨w.heap.size, 2, none⟩ = some (.int .i64 r.k) ∧ W.cell? ⟨w.heap.size, 3, none⟩ = some (.string r.nm) ∧ W.cell? ⟨w.heap.size, 4, none⟩ = some (.string r.pt) ∧ W.cell? ⟨w.heap.size, 5, none⟩ = some (.slice a kn cap) ∧ W.cell? ⟨w.heap.size, 6, none⟩ = some (.int .i64 r.n)) W) := fun W hb => by
        have hB := BX5.out.below hb
        obtain ⟨x0, x1, x2, x3, x4, x5, x6⟩ := seven hB.one
        exact ⟨hb, HCV.out W hb, x0, x1, x2, x3, x4, x5, x6⟩
      have HSM : Hid (∀ W, Below w5.heap.size w5 W → Calls Try.prog 13 #[.agg (rv r a kn cap)] W fun e w' => ∃ a6 k6 c6, e = .returned (.slice a6 k6 c6) ∧ (convert 32 9 (.slice a6 k6 c6)).run Try.prog w' = .ok (.string D) w' ∧ (fun W => Below w5.heap.size w5 W ∧ (convert 32 9 (.slice a5 L5 c5)).run Try.prog W = .ok (.string D) W ∧ W.cell? ⟨w.heap.size, 0, none⟩ = some (.int .i64 r.c) ∧ W.cell? ⟨w.heap.size, 1, none⟩ = some (.int .i64 r.t) ∧ W.cell? ⟨w.heap.size, 2, none⟩ = some (.int .i64 r.k) ∧ W.cell? ⟨w.heap.size, 3, none⟩ = some (.string r.nm) ∧ W.cell? ⟨w.heap.size, 4, none⟩ = some (.string r.pt) ∧ W.cell? ⟨w.heap.size, 5, none⟩ = some (.slice a kn cap) ∧ W.cell? ⟨w.heap.size, 6, none⟩ = some (.int .i64 r.n)) w') := fun W hb => by
        refine (refPut_ok r a kn cap W (HKR.out _ (BX5.out.bel.trans (hb.mono BX5.out.bel.size))) hm).mono ?_
        rintro e w' ⟨v6, rfl, hb6⟩
        obtain ⟨a6, c6, rfl, _, _, hl6, _⟩ := hb6.form
        exact ⟨a6, _, c6, rfl, by rw [hD]; exact conv_lies hl6, HS.out w' (hb.trans (hb6.2.1.mono hb.size))⟩
      clear hD x0 x1 x2 x3 x4 x5 x6 hb5 BX4 HL4 HL5 H5' HCV HKR HZ
      go_wp2
      go_region_held (fun W => Below w5.heap.size w5 W ∧ (convert 32 9 (.slice a5 L5 c5)).run Try.prog W = .ok (.string D) W ∧ W.cell? ⟨w.heap.size, 0, none⟩ = some (.int .i64 r.c) ∧ W.cell? ⟨w.heap.size, 1, none⟩ = some (.int .i64 r.t) ∧ W.cell? ⟨w.heap.size, 2, none⟩ = some (.int .i64 r.k) ∧ W.cell? ⟨w.heap.size, 3, none⟩ = some (.string r.nm) ∧ W.cell? ⟨w.heap.size, 4, none⟩ = some (.string r.pt) ∧ W.cell? ⟨w.heap.size, 5, none⟩ = some (.slice a kn cap) ∧ W.cell? ⟨w.heap.size, 6, none⟩ = some (.int .i64 r.n)) (first | assumption | exact HS.out _ (Below.refl _ _).drew | exact HS.out _ (Below.refl _ _))
        (first | (go_at_call 13; refine (HSM.out _ (by first | exact Below.refl _ _ | exact (Below.refl _ _).drew | (rename_i hS; exact hS.1))).mono ?_; rintro e w6 ⟨a6, k6, c6, rfl, hc6, hS6⟩))
      all_goals
        have HB6 : Hid (Below w5.heap.size w5 w6) := hS6.1
        clear hS6
        go_wp2
        go_ret
        exact ⟨rfl, (BX5.out.below HB6.out).bel⟩
end Go.Proofs.Ytanlanolblbckaa.Order
