/-
  The walk of OrderApart.
-/
import Derived.Test.YtanlanolblbckaaOrLaw
import Derived.Deep.RegionHeld
namespace Go.Proofs.Ytanlanolblbckaa.Order
open Go.RowKit Route

/-- Two boxes of requests in a world. -/
structure Bxs (w W : World) (A B : Array Value) : Prop where
  one : W.heap[w.heap.size]? = some (.cells A 26 (0, 0))
  two : W.heap[w.heap.size + 1]? = some (.cells B 26 (0, 0))
  bel : Below w.heap.size w W
theorem Bxs.start (w : World) (A B : Array Value) : Bxs w ((w.alloc (.cells A 26)).alloc (.cells B 26)) A B := by
  have h1 : Below w.heap.size w (w.alloc (.cells A 26)) := (Below.refl _ _).alloc (Nat.le_refl _) _
  have hz : (w.alloc (.cells A 26)).heap.size = w.heap.size + 1 := by simp
  exact ⟨(Below.heap_alloc _ _ _ (by rw [hz]; omega)).trans (heap_alloc_new w _), by rw [← hz]; exact heap_alloc_new _ _, h1.alloc h1.size _⟩
theorem Bxs.below {w W W' : World} {A B : Array Value} (h : Bxs w W A B) (hb : Below W.heap.size W W') : Bxs w W' A B :=
  ⟨bcells h.one hb, bcells h.two hb, h.bel.trans (hb.mono h.bel.size)⟩

theorem text_apart {l m : List UInt8} : ((⟨l.toArray⟩ : ByteArray) = ⟨m.toArray⟩) ↔ l = m := by
  constructor
  · intro e
    have := congrArg (fun b : ByteArray => b.data.toList) e
    simpa using this
  · rintro rfl; rfl

set_option maxHeartbeats 4000000 in
set_option maxRecDepth 100000 in
theorem orderApart_walk (r : Rq) (a : Option Addr) (kn cap : Nat) (s : Rq) (a' : Option Addr) (kn' cap' : Nat) (w : World) (h : ReqAt w a kn cap r) (h' : ReqAt w a' kn' cap' s) :
    Calls Try.prog 7 #[.agg (rv r a kn cap), .agg (rv s a' kn' cap')] w fun e w' => e = .returned (.bool true) ∧ Below w.heap.size w w' := by
  have HR : Hid (ReqAt w a kn cap r) := h
  have HS : Hid (ReqAt w a' kn' cap' s) := h'
  have HU : Hid (∀ w, Calls _ _ _ _ _) := up_any
  have BX : Hid (Bxs w _ (rv r a kn cap) (rv s a' kn' cap')) := Bxs.start w _ _
  clear h h'
  go_enter Try.func7, Try.ntmps7
  go_wp2_with fail
  refine (HU.out _).mono ?_
  rintro e w1 ⟨rfl, hb1⟩
  have BX1 : Hid (Bxs w w1 (rv r a kn cap) (rv s a' kn' cap')) := BX.out.below hb1
  clear BX hb1 HU
  obtain ⟨x0, x1, x2, x3, x4, x5, x6⟩ := seven BX1.out.one
  obtain ⟨y0, y1, y2, y3, y4, y5, y6⟩ := seven BX1.out.two
  have H1 : Hid (Calls _ _ _ _ _) := short_any r a kn cap w1 (HR.out.below BX1.out.bel)
  go_wp2_with fail
  refine H1.out.mono ?_
  rintro e w2 ⟨b2, rfl, hh⟩
  have BX2 : Hid (Bxs w w2 (rv r a kn cap) (rv s a' kn' cap')) := BX1.out.below hh.out.2
  have HS1 : Hid (b2 = true → ShortR r) := hh.out.1
  clear x0 x1 x2 x3 x4 x5 x6 y0 y1 y2 y3 y4 y5 y6 hh BX1 H1
  obtain ⟨x0, x1, x2, x3, x4, x5, x6⟩ := seven BX2.out.one
  obtain ⟨y0, y1, y2, y3, y4, y5, y6⟩ := seven BX2.out.two
  cases b2 with
  | false =>
    go_wp2
    go_ret
    exact ⟨rfl, BX2.out.bel⟩
  | true =>
    have H2 : Hid (Calls _ _ _ _ _) := short_any s a' kn' cap' w2 (HS.out.below BX2.out.bel)
    go_wp2_with fail
    refine H2.out.mono ?_
    rintro e w3 ⟨b3, rfl, hh⟩
    have BX3 : Hid (Bxs w w3 (rv r a kn cap) (rv s a' kn' cap')) := BX2.out.below hh.out.2
    have HS2 : Hid (b3 = true → ShortR s) := hh.out.1
    clear x0 x1 x2 x3 x4 x5 x6 y0 y1 y2 y3 y4 y5 y6 hh BX2 H2
    obtain ⟨x0, x1, x2, x3, x4, x5, x6⟩ := seven BX3.out.one
    obtain ⟨y0, y1, y2, y3, y4, y5, y6⟩ := seven BX3.out.two
    cases b3 with
    | false =>
      go_wp2
      go_ret
      exact ⟨rfl, BX3.out.bel⟩
    | true =>
      have hr : ShortR r := HS1.out (by first | rfl | trivial)
      have hs : ShortR s := HS2.out (by first | rfl | trivial)
      have HKR : Hid (∀ W, Below w.heap.size w W → KeysAt W a kn cap r.ks) := fun W hb => (HR.out.keys hr).below hb
      have HKS : Hid (∀ W, Below w.heap.size w W → KeysAt W a' kn' cap' s.ks) := fun W hb => (HS.out.keys hs).below hb
      have HZ : Hid ((r.nm.size ≤ 100000 ∧ r.pt.size ≤ 100000) ∧ s.nm.size ≤ 100000 ∧ s.pt.size ≤ 100000) := by
        have g1 := hr.1; have g2 := hr.2.1; have g3 := hs.1; have g4 := hs.2.1
        exact ⟨⟨by omega, by omega⟩, by omega, by omega⟩
      clear hr hs HS1 HS2 HR HS
      have q1 := neNil
      have q2 := neArgNil
      cases hm : may r with
      | false =>
        have H3 : Hid (Calls _ _ _ _ _) := put_no r a kn cap w3 HZ.out.1.1 HZ.out.1.2 (HKR.out _ BX3.out.bel) hm
        go_wp2_with fail
        refine H3.out.mono ?_
        rintro e w4 ⟨rfl, hb4⟩
        have BX4 : Hid (Bxs w w4 (rv r a kn cap) (rv s a' kn' cap')) := BX3.out.below hb4
        clear x0 x1 x2 x3 x4 x5 x6 y0 y1 y2 y3 y4 y5 y6 H3 BX3 hb4
        obtain ⟨y0, y1, y2, y3, y4, y5, y6⟩ := seven BX4.out.two
        cases hn : may s with
        | false =>
          have H4 : Hid (Calls _ _ _ _ _) := put_no s a' kn' cap' w4 HZ.out.2.1 HZ.out.2.2 (HKS.out _ BX4.out.bel) hn
          go_wp2_with fail
          refine H4.out.mono ?_
          rintro e w5 ⟨rfl, hb5⟩
          go_wp2
          go_ret
          exact ⟨rfl, (BX4.out.below hb5).bel⟩
        | true =>
          have H4 : Hid (Calls _ _ _ _ _) := put_ok s a' kn' cap' w4 (HKS.out _ BX4.out.bel) hn
          go_wp2_with fail
          refine H4.out.mono ?_
          rintro e w5 ⟨v5, rfl, hb5⟩
          go_wp2
          go_ret
          exact ⟨rfl, (BX4.out.below hb5.2.1).bel⟩
      | true =>
        have H3 : Hid (Calls _ _ _ _ _) := put_ok r a kn cap w3 (HKR.out _ BX3.out.bel) hm
        go_wp2_with fail
        refine H3.out.mono ?_
        rintro e w4 ⟨v4, rfl, hb4⟩
        obtain ⟨a4, c4, rfl, _, _, hl4, _⟩ := hb4.form
        have BX4 : Hid (Bxs w w4 (rv r a kn cap) (rv s a' kn' cap')) := BX3.out.below hb4.2.1
        have HL4 : Hid (Lies w4 a4 (enc r)) := hl4
        clear x0 x1 x2 x3 x4 x5 x6 y0 y1 y2 y3 y4 y5 y6 H3 BX3 hb4 hl4
        obtain ⟨y0, y1, y2, y3, y4, y5, y6⟩ := seven BX4.out.two
        cases hn : may s with
        | false =>
          have H4 : Hid (Calls _ _ _ _ _) := put_no s a' kn' cap' w4 HZ.out.2.1 HZ.out.2.2 (HKS.out _ BX4.out.bel) hn
          go_wp2_with fail
          refine H4.out.mono ?_
          rintro e w5 ⟨rfl, hb5⟩
          go_wp2
          go_ret
          exact ⟨rfl, (BX4.out.below hb5).bel⟩
        | true =>
          have H4 : Hid (Calls _ _ _ _ _) := put_ok s a' kn' cap' w4 (HKS.out _ BX4.out.bel) hn
          obtain ⟨L4, hL4⟩ : ∃ L, L = (enc r).length := ⟨_, rfl⟩
          obtain ⟨L5, hL5⟩ : ∃ L, L = (enc s).length := ⟨_, rfl⟩
          have E4 : Hid (L4 = (enc r).length) := hL4
          have E5 : Hid (L5 = (enc s).length) := hL5
          rw [← hL4]
          clear hL4 hL5
          go_wp2_with fail
          refine H4.out.mono ?_
          rintro e w5 ⟨v5, rfl, hb5⟩
          obtain ⟨a5, c5, rfl, _, _, hl5, _⟩ := hb5.form
          rw [← E5.out]
          have BX5 : Hid (Bxs w w5 (rv r a kn cap) (rv s a' kn' cap')) := BX4.out.below hb5.2.1
          obtain ⟨D, hD⟩ : ∃ D : ByteArray, D = ⟨(enc r).toArray⟩ := ⟨_, rfl⟩
          obtain ⟨F, hF⟩ : ∃ F : ByteArray, F = ⟨(enc s).toArray⟩ := ⟨_, rfl⟩
          have HL5 : Hid (∀ W, Below w5.heap.size w5 W → Lies W a4 (enc r) ∧ Lies W a5 (enc s)) := fun W hb => ⟨(HL4.out.below hb5.2.1 (Nat.le_refl _)).below hb (Nat.le_refl _), hl5.below hb (Nat.le_refl _)⟩
          have cv4 : ∀ W, Below w5.heap.size w5 W → (convert 32 9 (.slice a4 L4 c4)).run Try.prog W = .ok (.string D) W := fun W hb => by
            rw [E4.out, hD]; exact conv_lies (HL5.out W hb).1
          have cv5 : ∀ W, Below w5.heap.size w5 W → (convert 32 9 (.slice a5 L5 c5)).run Try.prog W = .ok (.string F) W := fun W hb => by
            rw [E5.out, hF]; exact conv_lies (HL5.out W hb).2
          have HSM : Hid (∀ W, Below w5.heap.size w5 W → Calls Try.prog 16 #[.agg (rv r a kn cap), .agg (rv s a' kn' cap')] W fun e w' => e = .returned (.bool (sameR r s)) ∧ Below W.heap.size W w') := fun W hb => by
            have hbw := BX5.out.bel.trans (hb.mono BX5.out.bel.size)
            exact same_any r s a a' kn cap kn' cap' W (HKR.out _ hbw) (HKS.out _ hbw)
          have hDF : (D.toList == F.toList) = sameR r s := by
            rw [str_eq, hD, hF, Bool.eq_iff_iff, decide_eq_true_iff, text_apart, sameR_iff]
            constructor
            · intro e
              exact (enc_one hm hn (x := []) (y := []) (by rw [e])).1
            · rintro rfl; rfl
          have HCV4 : Hid (∀ W, Below w5.heap.size w5 W → (convert 32 9 (.slice a4 L4 c4)).run Try.prog W = .ok (.string D) W) := cv4
          have HCV5 : Hid (∀ W, Below w5.heap.size w5 W → (convert 32 9 (.slice a5 L5 c5)).run Try.prog W = .ok (.string F) W) := cv5
          clear cv4 cv5 hD hF hb5 hl5 HL4 HL5 H4 BX4 HKR HKS HZ y0 y1 y2 y3 y4 y5 y6
          generalize sameR r s = q at *
          have HS : Hid (∀ W, Below w5.heap.size w5 W → (fun W => Below w5.heap.size w5 W ∧ (convert 32 9 (.slice a4 L4 c4)).run Try.prog W = .ok (.string D) W ∧ (convert 32 9 (.slice a5 L5 c5)).run Try.prog W = .ok (.string F) W ∧ W.cell? ⟨w.heap.size, 0, none⟩ = some (.int .i64 r.c) ∧ W.cell? ⟨w.heap.size, 1, none⟩ = some (.int .i64 r.t) ∧ W.cell? ⟨w.heap.size, 2, none⟩ = some (.int .i64 r.k) ∧ W.cell? ⟨w.heap.size, 3, none⟩ = some (.string r.nm) ∧ W.cell? ⟨w.heap.size, 4, none⟩ = some (.string r.pt) ∧ W.cell? ⟨w.heap.size, 5, none⟩ = some (.slice a kn cap) ∧ W.cell? ⟨w.heap.size, 6, none⟩ = some (.int .i64 r.n) ∧ W.cell? ⟨w.heap.size + 1, 0, none⟩ = some (.int .i64 s.c) ∧ W.cell? ⟨w.heap.size + 1, 1, none⟩ = some (.int .i64 s.t) ∧ W.cell? ⟨w.heap.size + 1, 2, none⟩ = some (.int .i64 s.k) ∧ W.cell? ⟨w.heap.size + 1, 3, none⟩ = some (.string s.nm) ∧ W.cell? ⟨w.heap.size + 1, 4, none⟩ = some (.string s.pt) ∧ W.cell? ⟨w.heap.size + 1, 5, none⟩ = some (.slice a' kn' cap') ∧ W.cell? ⟨w.heap.size + 1, 6, none⟩ = some (.int .i64 s.n)) W) := fun W hb => by
            have hB := BX5.out.below hb
            obtain ⟨x0, x1, x2, x3, x4, x5, x6⟩ := seven hB.one
            obtain ⟨y0, y1, y2, y3, y4, y5, y6⟩ := seven hB.two
            exact ⟨hb, HCV4.out W hb, HCV5.out W hb, x0, x1, x2, x3, x4, x5, x6, y0, y1, y2, y3, y4, y5, y6⟩
          have HSM2 : Hid (∀ W, Below w5.heap.size w5 W → Calls Try.prog 16 #[.agg (rv r a kn cap), .agg (rv s a' kn' cap')] W fun e w' => e = .returned (.bool q) ∧ (fun W => Below w5.heap.size w5 W ∧ (convert 32 9 (.slice a4 L4 c4)).run Try.prog W = .ok (.string D) W ∧ (convert 32 9 (.slice a5 L5 c5)).run Try.prog W = .ok (.string F) W ∧ W.cell? ⟨w.heap.size, 0, none⟩ = some (.int .i64 r.c) ∧ W.cell? ⟨w.heap.size, 1, none⟩ = some (.int .i64 r.t) ∧ W.cell? ⟨w.heap.size, 2, none⟩ = some (.int .i64 r.k) ∧ W.cell? ⟨w.heap.size, 3, none⟩ = some (.string r.nm) ∧ W.cell? ⟨w.heap.size, 4, none⟩ = some (.string r.pt) ∧ W.cell? ⟨w.heap.size, 5, none⟩ = some (.slice a kn cap) ∧ W.cell? ⟨w.heap.size, 6, none⟩ = some (.int .i64 r.n) ∧ W.cell? ⟨w.heap.size + 1, 0, none⟩ = some (.int .i64 s.c) ∧ W.cell? ⟨w.heap.size + 1, 1, none⟩ = some (.int .i64 s.t) ∧ W.cell? ⟨w.heap.size + 1, 2, none⟩ = some (.int .i64 s.k) ∧ W.cell? ⟨w.heap.size + 1, 3, none⟩ = some (.string s.nm) ∧ W.cell? ⟨w.heap.size + 1, 4, none⟩ = some (.string s.pt) ∧ W.cell? ⟨w.heap.size + 1, 5, none⟩ = some (.slice a' kn' cap') ∧ W.cell? ⟨w.heap.size + 1, 6, none⟩ = some (.int .i64 s.n)) w') := fun W hb => by
            refine (HSM.out W hb).mono ?_
            rintro e w' ⟨rfl, hb'⟩
            exact ⟨rfl, HS.out w' (hb.trans (hb'.mono hb.size))⟩
          clear HSM HCV4 HCV5
          go_wp2
          go_region_held (fun W => Below w5.heap.size w5 W ∧ (convert 32 9 (.slice a4 L4 c4)).run Try.prog W = .ok (.string D) W ∧ (convert 32 9 (.slice a5 L5 c5)).run Try.prog W = .ok (.string F) W ∧ W.cell? ⟨w.heap.size, 0, none⟩ = some (.int .i64 r.c) ∧ W.cell? ⟨w.heap.size, 1, none⟩ = some (.int .i64 r.t) ∧ W.cell? ⟨w.heap.size, 2, none⟩ = some (.int .i64 r.k) ∧ W.cell? ⟨w.heap.size, 3, none⟩ = some (.string r.nm) ∧ W.cell? ⟨w.heap.size, 4, none⟩ = some (.string r.pt) ∧ W.cell? ⟨w.heap.size, 5, none⟩ = some (.slice a kn cap) ∧ W.cell? ⟨w.heap.size, 6, none⟩ = some (.int .i64 r.n) ∧ W.cell? ⟨w.heap.size + 1, 0, none⟩ = some (.int .i64 s.c) ∧ W.cell? ⟨w.heap.size + 1, 1, none⟩ = some (.int .i64 s.t) ∧ W.cell? ⟨w.heap.size + 1, 2, none⟩ = some (.int .i64 s.k) ∧ W.cell? ⟨w.heap.size + 1, 3, none⟩ = some (.string s.nm) ∧ W.cell? ⟨w.heap.size + 1, 4, none⟩ = some (.string s.pt) ∧ W.cell? ⟨w.heap.size + 1, 5, none⟩ = some (.slice a' kn' cap') ∧ W.cell? ⟨w.heap.size + 1, 6, none⟩ = some (.int .i64 s.n)) (first | assumption | exact HS.out _ (Below.refl _ _).drew | exact HS.out _ (Below.refl _ _))
            (first | (go_at_call 16; refine (HSM2.out _ (by first | exact Below.refl _ _ | exact (Below.refl _ _).drew | (rename_i hS; exact hS.1))).mono ?_; rintro e w6 ⟨rfl, hS6⟩))
          all_goals
            have HB6 : Hid (Below w5.heap.size w5 w6) := hS6.1
            clear hS6
            go_wp2
            go_ret
            exact ⟨rfl, (BX5.out.below HB6.out).bel⟩
end Go.Proofs.Ytanlanolblbckaa.Order
