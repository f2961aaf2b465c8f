/-
  The walk of MsgApart.
-/
import Derived.Test.YtbcemghkmmbmdabMsUp
import Derived.Test.YtbcemghkmmbmdabMsShort
import Derived.Test.YtbcemghkmmbmdabMsSame2
import Derived.Test.YtbcemghkmmbmdabMsInj
namespace Go.Proofs.Ytbcemghkmmbmdab.Msg
open Go.RowKit Route Order

theorem neqArg (w : World) : (binOp .neq 30 (.iface 36 (.int .i64 1)) .nilIface).run Try.prog w = .ok (.bool true) w := by kernel_rfl
theorem neqNil (w : World) : (binOp .neq 30 .nilIface .nilIface).run Try.prog w = .ok (.bool false) w := by kernel_rfl
theorem ShM.sizes {m : Ms} (h : ShM m) : m.p.length ≤ 1000000 ∧ (∀ e ∈ m.p, e.2.2.2.length ≤ 1000000000) ∧ m.c.length ≤ 1000000 ∧ ∀ e ∈ m.c, e.2.2.length ≤ 1000000000 ∧ ∀ x ∈ e.2.2, x.2.2.2.length ≤ 1000000000 :=
  ⟨by have := h.1.1; omega, fun e he => by have := (h.1.2 e he).2; omega, by have := h.2.2.1; omega, fun e he => ⟨by have := (h.2.2.2 e he).1; omega, fun x hx => by have := ((h.2.2.2 e he).2 x hx).2; omega⟩⟩

set_option maxHeartbeats 16000000 in
set_option maxRecDepth 100000 in
theorem msgApart_main (m : Ms) (a : Option Addr) (n c : Nat) (b : Option Addr) (u d : Nat) (m' : Ms) (a' : Option Addr) (n' c' : Nat) (b' : Option Addr) (u' d' : Nat) (w : World) (hM : MsIn w m a n b u) (hM' : MsIn w m' a' n' b' u') :
    Calls Try.prog 3 #[.agg (msV m a n c b u d), .agg (msV m' a' n' c' b' u' d')] w fun e w' => e = .returned (.bool true) ∧ Below w.heap.size w w' := by
  obtain ⟨k, f, v, s, bd, pl, cl⟩ := m
  obtain ⟨k', f', v', s', bd', pl', cl'⟩ := m'
  show Calls Try.prog 3 #[.agg #[.int .i64 k, .int .i64 f, .int .i64 v, .int .i64 s, .string bd, .slice a n c, .slice b u d], .agg #[.int .i64 k', .int .i64 f', .int .i64 v', .int .i64 s', .string bd', .slice a' n' c', .slice b' u' d']] w _
  obtain ⟨W1, hW1⟩ : ∃ W1, W1 = (w.alloc (.cells #[.int .i64 k, .int .i64 f, .int .i64 v, .int .i64 s, .string bd, .slice a n c, .slice b u d] 25)).alloc (.cells #[.int .i64 k', .int .i64 f', .int .i64 v', .int .i64 s', .string bd', .slice a' n' c', .slice b' u' d'] 25) := ⟨_, rfl⟩
  have HW1 : Hid (W1 = _) := hW1
  have hb1 : Below w.heap.size w (w.alloc (.cells #[.int .i64 k, .int .i64 f, .int .i64 v, .int .i64 s, .string bd, .slice a n c, .slice b u d] 25)) := (Below.refl _ _).alloc (Nat.le_refl _) _
  have hB1 : Below w.heap.size w W1 := by rw [hW1]; exact hb1.alloc hb1.size _
  have HB1 : Hid (Below w.heap.size w W1) := hB1
  have hz : (w.alloc (.cells #[.int .i64 k, .int .i64 f, .int .i64 v, .int .i64 s, .string bd, .slice a n c, .slice b u d] 25)).heap.size = w.heap.size + 1 := by simp
  have hbx : W1.heap[w.heap.size]? = some (.cells #[.int .i64 k, .int .i64 f, .int .i64 v, .int .i64 s, .string bd, .slice a n c, .slice b u d] 25 (0, 0)) := by rw [hW1, Below.heap_alloc _ _ _ (by rw [hz]; omega)]; exact heap_alloc_new w _
  have hby : W1.heap[w.heap.size + 1]? = some (.cells #[.int .i64 k', .int .i64 f', .int .i64 v', .int .i64 s', .string bd', .slice a' n' c', .slice b' u' d'] 25 (0, 0)) := by rw [hW1, ← hz]; exact heap_alloc_new _ _
  have HX : Hid (∀ W, Below W1.heap.size W1 W → W.heap[w.heap.size]? = some (.cells #[.int .i64 k, .int .i64 f, .int .i64 v, .int .i64 s, .string bd, .slice a n c, .slice b u d] 25 (0, 0)) ∧ W.heap[w.heap.size + 1]? = some (.cells #[.int .i64 k', .int .i64 f', .int .i64 v', .int .i64 s', .string bd', .slice a' n' c', .slice b' u' d'] 25 (0, 0)) ∧ MsIn W ⟨k, f, v, s, bd, pl, cl⟩ a n b u ∧ MsIn W ⟨k', f', v', s', bd', pl', cl'⟩ a' n' b' u') := fun W hb => ⟨box_stays hbx hb (Nat.le_refl _), box_stays hby hb (Nat.le_refl _), (hM.below hB1 (Nat.le_refl _)).below hb (Nat.le_refl _), (hM'.below hB1 (Nat.le_refl _)).below hb (Nat.le_refl _)⟩
  have HFin : Hid (∀ W, Below W1.heap.size W1 W → Below w.heap.size w W) := fun W hb => HB1.out.trans (hb.mono HB1.out.size)
  have HU : Hid (Calls _ _ _ _ _) := up_any W1
  have q0 := neqNil
  have q1 := neqArg
  clear hM hM' hW1 hb1 hB1 hz hbx hby
  go_enter Try.func3, Try.ntmps3
  go_wp2_with fail
  rw [← HW1.out]
  refine HU.out.mono ?_
  rintro e w2 ⟨rfl, hb2⟩
  have HB2 : Hid (Below W1.heap.size W1 w2) := hb2
  obtain ⟨y0, y1, y2, y3, y4, y5, y6⟩ := seven7 (HX.out _ hb2).1
  obtain ⟨z0, z1, z2, z3, z4, z5, z6⟩ := seven7 (HX.out _ hb2).2.1
  have HS : Hid (Calls _ _ _ _ _) := short_any ⟨k, f, v, s, bd, pl, cl⟩ a n c b u d w2 (HX.out _ hb2).2.2.1
  clear HU hb2
  go_wp2_with fail
  refine HS.out.mono ?_
  rintro e w3 ⟨r1, rfl, hsh, hb3⟩
  have HB3 : Hid (Below W1.heap.size W1 w3) := HB2.out.trans (hb3.mono HB2.out.size)
  have HSH1 : Hid (r1 = true → ShM ⟨k, f, v, s, bd, pl, cl⟩) := hsh
  clear hsh hb3 HS HB2
  clear y0 y1 y2 y3 y4 y5 y6 z0 z1 z2 z3 z4 z5 z6
  obtain ⟨y0, y1, y2, y3, y4, y5, y6⟩ := seven7 (HX.out _ HB3.out).1
  obtain ⟨z0, z1, z2, z3, z4, z5, z6⟩ := seven7 (HX.out _ HB3.out).2.1
  cases r1 with
  | false =>
    go_wp2
    go_ret
    exact ⟨by rfl, HFin.out _ HB3.out⟩
  | true =>
    have HS2 : Hid (Calls _ _ _ _ _) := short_any ⟨k', f', v', s', bd', pl', cl'⟩ a' n' c' b' u' d' w3 (HX.out _ HB3.out).2.2.2
    go_wp2_with fail
    refine HS2.out.mono ?_
    rintro e w4 ⟨r2, rfl, hsh, hb4⟩
    have HB4 : Hid (Below W1.heap.size W1 w4) := HB3.out.trans (hb4.mono HB3.out.size)
    have HSH2 : Hid (r2 = true → ShM ⟨k', f', v', s', bd', pl', cl'⟩) := hsh
    clear hsh hb4 HS2 HB3
    clear y0 y1 y2 y3 y4 y5 y6 z0 z1 z2 z3 z4 z5 z6
    obtain ⟨y0, y1, y2, y3, y4, y5, y6⟩ := seven7 (HX.out _ HB4.out).1
    obtain ⟨z0, z1, z2, z3, z4, z5, z6⟩ := seven7 (HX.out _ HB4.out).2.1
    cases r2 with
    | false =>
      go_wp2
      go_ret
      exact ⟨by rfl, HFin.out _ HB4.out⟩
    | true =>
      have HM1 : Hid (ShM ⟨k, f, v, s, bd, pl, cl⟩) := HSH1.out (by first | rfl | trivial)
      have HM2 : Hid (ShM ⟨k', f', v', s', bd', pl', cl'⟩) := HSH2.out (by first | rfl | trivial)
      clear HSH1 HSH2
      cases hm1 : mayB ⟨k, f, v, s, bd, pl, cl⟩ with
      | false =>
        have HP1 : Hid (Calls _ _ _ _ _) := put_no ⟨k, f, v, s, bd, pl, cl⟩ a n c b u d w4 (HX.out _ HB4.out).2.2.1 HM1.out.fit hm1
        clear hm1
        go_wp2_with fail
        refine HP1.out.mono ?_
        rintro e w5 ⟨rfl, hb5⟩
        have HB5 : Hid (Below W1.heap.size W1 w5) := HB4.out.trans (hb5.mono HB4.out.size)
        clear HP1 hb5 HB4
        clear y0 y1 y2 y3 y4 y5 y6 z0 z1 z2 z3 z4 z5 z6
        obtain ⟨y0, y1, y2, y3, y4, y5, y6⟩ := seven7 (HX.out _ HB5.out).1
        obtain ⟨z0, z1, z2, z3, z4, z5, z6⟩ := seven7 (HX.out _ HB5.out).2.1
        cases hm2 : mayB ⟨k', f', v', s', bd', pl', cl'⟩ with
        | false =>
          have HP2 : Hid (Calls _ _ _ _ _) := put_no ⟨k', f', v', s', bd', pl', cl'⟩ a' n' c' b' u' d' w5 (HX.out _ HB5.out).2.2.2 HM2.out.fit hm2
          clear hm2
          go_wp2_with fail
          refine HP2.out.mono ?_
          rintro e w6 ⟨rfl, hb6⟩
          have HB6 : Hid (Below W1.heap.size W1 w6) := HB5.out.trans (hb6.mono HB5.out.size)
          clear HP2 hb6
          go_wp2
          go_ret
          exact ⟨by rfl, HFin.out _ HB6.out⟩
        | true =>
          have HP2 : Hid (Calls _ _ _ _ _) := put_ok ⟨k', f', v', s', bd', pl', cl'⟩ a' n' c' b' u' d' w5 (HX.out _ HB5.out).2.2.2 (mayB_iff.1 hm2)
          clear hm2
          go_wp2_with fail
          refine HP2.out.mono ?_
          rintro e w6 ⟨r6, rfl, hv6⟩
          have HB6 : Hid (Below W1.heap.size W1 w6) := HB5.out.trans (hv6.2.1.mono HB5.out.size)
          clear HP2 hv6
          go_wp2
          go_ret
          exact ⟨by rfl, HFin.out _ HB6.out⟩
      | true =>
        have HK1 : Hid (MsOk ⟨k, f, v, s, bd, pl, cl⟩) := mayB_iff.1 hm1
        have HP1 : Hid (Calls _ _ _ _ _) := put_ok ⟨k, f, v, s, bd, pl, cl⟩ a n c b u d w4 (HX.out _ HB4.out).2.2.1 HK1.out
        clear hm1
        go_wp2_with fail
        refine HP1.out.mono ?_
        rintro e w5 ⟨r5, rfl, hv5⟩
        obtain ⟨a5, c5, rfl, HV5⟩ := conv_buf hv5 rfl
        have HB5 : Hid (Below W1.heap.size W1 w5) := HB4.out.trans (hv5.2.1.mono HB4.out.size)
        clear HP1 hv5 HB4
        clear y0 y1 y2 y3 y4 y5 y6 z0 z1 z2 z3 z4 z5 z6
        obtain ⟨y0, y1, y2, y3, y4, y5, y6⟩ := seven7 (HX.out _ HB5.out).1
        obtain ⟨z0, z1, z2, z3, z4, z5, z6⟩ := seven7 (HX.out _ HB5.out).2.1
        generalize (encM ⟨k, f, v, s, bd, pl, cl⟩).length = n5 at HV5 ⊢
        cases hm2 : mayB ⟨k', f', v', s', bd', pl', cl'⟩ with
        | false =>
          have HP2 : Hid (Calls _ _ _ _ _) := put_no ⟨k', f', v', s', bd', pl', cl'⟩ a' n' c' b' u' d' w5 (HX.out _ HB5.out).2.2.2 HM2.out.fit hm2
          clear hm2
          go_wp2_with fail
          refine HP2.out.mono ?_
          rintro e w6 ⟨rfl, hb6⟩
          have HB6 : Hid (Below W1.heap.size W1 w6) := HB5.out.trans (hb6.mono HB5.out.size)
          clear HP2 hb6
          go_wp2
          go_ret
          exact ⟨by rfl, HFin.out _ HB6.out⟩
        | true =>
          have HK2 : Hid (MsOk ⟨k', f', v', s', bd', pl', cl'⟩) := mayB_iff.1 hm2
          have HP2 : Hid (Calls _ _ _ _ _) := put_ok ⟨k', f', v', s', bd', pl', cl'⟩ a' n' c' b' u' d' w5 (HX.out _ HB5.out).2.2.2 HK2.out
          clear hm2
          go_wp2_with fail
          refine HP2.out.mono ?_
          rintro e w6 ⟨r6, rfl, hv6⟩
          obtain ⟨a6, c6, rfl, HV6⟩ := conv_buf hv6 rfl
          have HB6 : Hid (Below W1.heap.size W1 w6) := HB5.out.trans (hv6.2.1.mono HB5.out.size)
          have HC5 : Hid (∀ W, Below w6.heap.size w6 W → (convert 28 9 (.slice a5 n5 c5)).run Try.prog W = .ok (.string ⟨(encM ⟨k, f, v, s, bd, pl, cl⟩).toArray⟩) W) := fun W hb => HV5.out.1 W (hv6.2.1.trans (hb.mono hv6.2.1.size))
          have HC6 : Hid (∀ W, Below w6.heap.size w6 W → (convert 28 9 (.slice a6 (encM ⟨k', f', v', s', bd', pl', cl'⟩).length c6)).run Try.prog W = .ok (.string ⟨(encM ⟨k', f', v', s', bd', pl', cl'⟩).toArray⟩) W) := HV6.out.1
          clear HP2 hv6 HV5 HV6 HB5
          clear y0 y1 y2 y3 y4 y5 y6 z0 z1 z2 z3 z4 z5 z6
          generalize (encM ⟨k', f', v', s', bd', pl', cl'⟩).length = n6 at HC6 ⊢
          have HBX : Hid (∀ W, Below w6.heap.size w6 W → Below w.heap.size w W) := fun W hb => HFin.out W (HB6.out.trans (hb.mono HB6.out.size))
          have HSM : Hid (∀ W, Below w6.heap.size w6 W → Calls Try.prog 7 #[.agg #[.int .i64 k, .int .i64 f, .int .i64 v, .int .i64 s, .string bd, .slice a n c, .slice b u d], .agg #[.int .i64 k', .int .i64 f', .int .i64 v', .int .i64 s', .string bd', .slice a' n' c', .slice b' u' d']] W (SmO ⟨k, f, v, s, bd, pl, cl⟩ ⟨k', f', v', s', bd', pl', cl'⟩ W)) := fun W hb => same_any ⟨k, f, v, s, bd, pl, cl⟩ ⟨k', f', v', s', bd', pl', cl'⟩ a n c b u d a' n' c' b' u' d' W (HX.out W (HB6.out.trans (hb.mono HB6.out.size))).2.2.1 (HX.out W (HB6.out.trans (hb.mono HB6.out.size))).2.2.2 HM1.out.sizes
          have HYY : Hid (∀ W, Below w6.heap.size w6 W → W.heap[w.heap.size]? = some (.cells #[.int .i64 k, .int .i64 f, .int .i64 v, .int .i64 s, .string bd, .slice a n c, .slice b u d] 25 (0, 0)) ∧ W.heap[w.heap.size + 1]? = some (.cells #[.int .i64 k', .int .i64 f', .int .i64 v', .int .i64 s', .string bd', .slice a' n' c', .slice b' u' d'] 25 (0, 0))) := fun W hb => ⟨(HX.out W (HB6.out.trans (hb.mono HB6.out.size))).1, (HX.out W (HB6.out.trans (hb.mono HB6.out.size))).2.1⟩
          have HEQ : Hid ((⟨k, f, v, s, bd, pl, cl⟩ : Ms) = ⟨k', f', v', s', bd', pl', cl'⟩ ∧ (⟨(encM ⟨k, f, v, s, bd, pl, cl⟩).toArray⟩ : ByteArray) = ⟨(encM ⟨k', f', v', s', bd', pl', cl'⟩).toArray⟩ ∨ (⟨k, f, v, s, bd, pl, cl⟩ : Ms) ≠ ⟨k', f', v', s', bd', pl', cl'⟩ ∧ (⟨(encM ⟨k, f, v, s, bd, pl, cl⟩).toArray⟩ : ByteArray) ≠ ⟨(encM ⟨k', f', v', s', bd', pl', cl'⟩).toArray⟩) := by
            show _ ∨ _
            by_cases e : (⟨k, f, v, s, bd, pl, cl⟩ : Ms) = ⟨k', f', v', s', bd', pl', cl'⟩
            · exact .inl ⟨e, by rw [e]⟩
            · refine .inr ⟨e, fun h => e (encM_inj HK1.out HK2.out ?_)⟩
              have := congrArg (fun x : ByteArray => x.data.toList) h
              simpa using this
          generalize (⟨(encM ⟨k, f, v, s, bd, pl, cl⟩).toArray⟩ : ByteArray) = sp at HC5 HEQ
          generalize (⟨(encM ⟨k', f', v', s', bd', pl', cl'⟩).toArray⟩ : ByteArray) = sq at HC6 HEQ
          clear HX HFin HM1 HM2 HK1 HK2 HB6
          have hc5 := HC5.out _ (Below.refl w6.heap.size w6).drew
          have hc6 := HC6.out _ (Below.refl w6.heap.size w6).drew
          have HC0 := seven7 (HYY.out _ (Below.refl w6.heap.size w6).drew).1
          have HC1 := seven7 (HYY.out _ (Below.refl w6.heap.size w6).drew).2
          rcases HEQ.out with ⟨hE, hS⟩ | ⟨hE, hS⟩
          · subst hS
            have HR : Hid (∀ W, Below w6.heap.size w6 W → Calls Try.prog 7 #[.agg #[.int .i64 k, .int .i64 f, .int .i64 v, .int .i64 s, .string bd, .slice a n c, .slice b u d], .agg #[.int .i64 k', .int .i64 f', .int .i64 v', .int .i64 s', .string bd', .slice a' n' c', .slice b' u' d']] W fun e w8 => e = .returned (.bool true) ∧ ((Below w6.heap.size w6 w8 ∧ (convert 28 9 (.slice a5 n5 c5)).run Try.prog w8 = .ok (.string sp) w8 ∧ (convert 28 9 (.slice a6 n6 c6)).run Try.prog w8 = .ok (.string sp) w8) ∧ (w8.cell? ⟨w.heap.size, 0, none⟩ = some (.int .i64 k) ∧ w8.cell? ⟨w.heap.size, 1, none⟩ = some (.int .i64 f) ∧ w8.cell? ⟨w.heap.size, 2, none⟩ = some (.int .i64 v) ∧ w8.cell? ⟨w.heap.size, 3, none⟩ = some (.int .i64 s) ∧ w8.cell? ⟨w.heap.size, 4, none⟩ = some (.string bd) ∧ w8.cell? ⟨w.heap.size, 5, none⟩ = some (.slice a n c) ∧ w8.cell? ⟨w.heap.size, 6, none⟩ = some (.slice b u d)) ∧ w8.cell? ⟨w.heap.size + 1, 0, none⟩ = some (.int .i64 k') ∧ w8.cell? ⟨w.heap.size + 1, 1, none⟩ = some (.int .i64 f') ∧ w8.cell? ⟨w.heap.size + 1, 2, none⟩ = some (.int .i64 v') ∧ w8.cell? ⟨w.heap.size + 1, 3, none⟩ = some (.int .i64 s') ∧ w8.cell? ⟨w.heap.size + 1, 4, none⟩ = some (.string bd') ∧ w8.cell? ⟨w.heap.size + 1, 5, none⟩ = some (.slice a' n' c') ∧ w8.cell? ⟨w.heap.size + 1, 6, none⟩ = some (.slice b' u' d'))) := fun W hb => by
              refine (HSM.out W hb).mono ?_
              rintro e w8 ⟨r, rfl, hr, hb8⟩
              have hb9 := hb.trans (hb8.mono hb.size)
              exact ⟨by rw [show r = true from hr.2 hE], ⟨hb9, HC5.out _ hb9, HC6.out _ hb9⟩, seven7 (HYY.out _ hb9).1, seven7 (HYY.out _ hb9).2⟩
            clear hE
            clear HSM HYY HC5 HC6 HEQ
            go_wp2_with fail
            go_region_held (fun W => (Below w6.heap.size w6 W ∧ (convert 28 9 (.slice a5 n5 c5)).run Try.prog W = .ok (.string sp) W ∧ (convert 28 9 (.slice a6 n6 c6)).run Try.prog W = .ok (.string sp) W) ∧ (W.cell? ⟨w.heap.size, 0, none⟩ = some (.int .i64 k) ∧ W.cell? ⟨w.heap.size, 1, none⟩ = some (.int .i64 f) ∧ W.cell? ⟨w.heap.size, 2, none⟩ = some (.int .i64 v) ∧ W.cell? ⟨w.heap.size, 3, none⟩ = some (.int .i64 s) ∧ W.cell? ⟨w.heap.size, 4, none⟩ = some (.string bd) ∧ W.cell? ⟨w.heap.size, 5, none⟩ = some (.slice a n c) ∧ W.cell? ⟨w.heap.size, 6, none⟩ = some (.slice b u d)) ∧ W.cell? ⟨w.heap.size + 1, 0, none⟩ = some (.int .i64 k') ∧ W.cell? ⟨w.heap.size + 1, 1, none⟩ = some (.int .i64 f') ∧ W.cell? ⟨w.heap.size + 1, 2, none⟩ = some (.int .i64 v') ∧ W.cell? ⟨w.heap.size + 1, 3, none⟩ = some (.int .i64 s') ∧ W.cell? ⟨w.heap.size + 1, 4, none⟩ = some (.string bd') ∧ W.cell? ⟨w.heap.size + 1, 5, none⟩ = some (.slice a' n' c') ∧ W.cell? ⟨w.heap.size + 1, 6, none⟩ = some (.slice b' u' d'))
              (first | assumption | exact ⟨⟨(Below.refl _ _).drew, hc5, hc6⟩, HC0, HC1⟩)
              (first | (go_at_call 7; refine (HR.out _ (by first | (rename_i hS; exact hS.1.1) | exact (Below.refl _ _).drew)).mono ?_; rintro e w8 ⟨rfl, hS8⟩))
            all_goals
              have HB8 : Hid (Below w.heap.size w w8) := HBX.out _ hS8.1.1
              clear hS8 HR HC0 HC1 hc5 hc6
              go_wp2
              go_ret
              exact ⟨by first | rfl | simp, HB8.out⟩
          · have HR : Hid (∀ W, Below w6.heap.size w6 W → Calls Try.prog 7 #[.agg #[.int .i64 k, .int .i64 f, .int .i64 v, .int .i64 s, .string bd, .slice a n c, .slice b u d], .agg #[.int .i64 k', .int .i64 f', .int .i64 v', .int .i64 s', .string bd', .slice a' n' c', .slice b' u' d']] W fun e w8 => e = .returned (.bool false) ∧ ((Below w6.heap.size w6 w8 ∧ (convert 28 9 (.slice a5 n5 c5)).run Try.prog w8 = .ok (.string sp) w8 ∧ (convert 28 9 (.slice a6 n6 c6)).run Try.prog w8 = .ok (.string sq) w8) ∧ (w8.cell? ⟨w.heap.size, 0, none⟩ = some (.int .i64 k) ∧ w8.cell? ⟨w.heap.size, 1, none⟩ = some (.int .i64 f) ∧ w8.cell? ⟨w.heap.size, 2, none⟩ = some (.int .i64 v) ∧ w8.cell? ⟨w.heap.size, 3, none⟩ = some (.int .i64 s) ∧ w8.cell? ⟨w.heap.size, 4, none⟩ = some (.string bd) ∧ w8.cell? ⟨w.heap.size, 5, none⟩ = some (.slice a n c) ∧ w8.cell? ⟨w.heap.size, 6, none⟩ = some (.slice b u d)) ∧ w8.cell? ⟨w.heap.size + 1, 0, none⟩ = some (.int .i64 k') ∧ w8.cell? ⟨w.heap.size + 1, 1, none⟩ = some (.int .i64 f') ∧ w8.cell? ⟨w.heap.size + 1, 2, none⟩ = some (.int .i64 v') ∧ w8.cell? ⟨w.heap.size + 1, 3, none⟩ = some (.int .i64 s') ∧ w8.cell? ⟨w.heap.size + 1, 4, none⟩ = some (.string bd') ∧ w8.cell? ⟨w.heap.size + 1, 5, none⟩ = some (.slice a' n' c') ∧ w8.cell? ⟨w.heap.size + 1, 6, none⟩ = some (.slice b' u' d'))) := fun W hb => by
              refine (HSM.out W hb).mono ?_
              rintro e w8 ⟨r, rfl, hr, hb8⟩
              have hb9 := hb.trans (hb8.mono hb.size)
              exact ⟨by rw [show r = false from by cases r with | false => rfl | true => exact absurd (hr.1 rfl) hE], ⟨hb9, HC5.out _ hb9, HC6.out _ hb9⟩, seven7 (HYY.out _ hb9).1, seven7 (HYY.out _ hb9).2⟩
            have hne := text_ne hS
            clear hE hS
            clear HSM HYY HC5 HC6 HEQ
            go_wp2_with fail
            go_region_held (fun W => (Below w6.heap.size w6 W ∧ (convert 28 9 (.slice a5 n5 c5)).run Try.prog W = .ok (.string sp) W ∧ (convert 28 9 (.slice a6 n6 c6)).run Try.prog W = .ok (.string sq) W) ∧ (W.cell? ⟨w.heap.size, 0, none⟩ = some (.int .i64 k) ∧ W.cell? ⟨w.heap.size, 1, none⟩ = some (.int .i64 f) ∧ W.cell? ⟨w.heap.size, 2, none⟩ = some (.int .i64 v) ∧ W.cell? ⟨w.heap.size, 3, none⟩ = some (.int .i64 s) ∧ W.cell? ⟨w.heap.size, 4, none⟩ = some (.string bd) ∧ W.cell? ⟨w.heap.size, 5, none⟩ = some (.slice a n c) ∧ W.cell? ⟨w.heap.size, 6, none⟩ = some (.slice b u d)) ∧ W.cell? ⟨w.heap.size + 1, 0, none⟩ = some (.int .i64 k') ∧ W.cell? ⟨w.heap.size + 1, 1, none⟩ = some (.int .i64 f') ∧ W.cell? ⟨w.heap.size + 1, 2, none⟩ = some (.int .i64 v') ∧ W.cell? ⟨w.heap.size + 1, 3, none⟩ = some (.int .i64 s') ∧ W.cell? ⟨w.heap.size + 1, 4, none⟩ = some (.string bd') ∧ W.cell? ⟨w.heap.size + 1, 5, none⟩ = some (.slice a' n' c') ∧ W.cell? ⟨w.heap.size + 1, 6, none⟩ = some (.slice b' u' d'))
              (first | assumption | exact ⟨⟨(Below.refl _ _).drew, hc5, hc6⟩, HC0, HC1⟩)
              (first | (go_at_call 7; refine (HR.out _ (by first | (rename_i hS; exact hS.1.1) | exact (Below.refl _ _).drew)).mono ?_; rintro e w8 ⟨rfl, hS8⟩))
            all_goals
              have HB8 : Hid (Below w.heap.size w w8) := HBX.out _ hS8.1.1
              clear hS8 HR HC0 HC1 hc5 hc6
              go_wp2
              go_ret
              exact ⟨by first | rfl | simp, HB8.out⟩

theorem msgApart_walk (m : Ms) (a : Option Addr) (n c : Nat) (b : Option Addr) (u d : Nat) (m' : Ms) (a' : Option Addr) (n' c' : Nat) (b' : Option Addr) (u' d' : Nat) (w : World) (hM : MsIn w m a n b u) (hM' : MsIn w m' a' n' b' u') :
    Calls Try.prog 3 #[.agg (msV m a n c b u d), .agg (msV m' a' n' c' b' u' d')] w fun e w' => e = .returned (.bool true) ∧ Below w.heap.size w w' := msgApart_main m a n c b u d m' a' n' c' b' u' d' w hM hM'
end Go.Proofs.Ytbcemghkmmbmdab.Msg
