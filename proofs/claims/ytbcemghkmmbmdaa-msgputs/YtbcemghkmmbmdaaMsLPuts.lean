/-
  The walk of MsgPuts.
-/
import Derived.Test.YtbcemghkmmbmdaaMsUp
import Derived.Test.YtbcemghkmmbmdaaMsShort
import Derived.Test.YtbcemghkmmbmdaaMsMayR2
import Derived.Test.YtbcemghkmmbmdaaMsRef2
namespace Go.Proofs.Ytbcemghkmmbmdaa.Msg
open Go.RowKit Route Order

theorem refPut_tell {k f v s : Nat} {bd : ByteArray} {pl : List Pf} {cl : List Ch} (K : MsOk ⟨(k : Int), (f : Int), (v : Int), (s : Int), bd, pl, cl⟩) {a : Option Addr} {n c : Nat} {a' : Option Addr} {n' c' : Nat} {w : World} (hM : MsIn w ⟨(k : Int), (f : Int), (v : Int), (s : Int), bd, pl, cl⟩ a n a' n') :
    Calls Try.prog 14 #[.agg #[.int .i64 (k : Int), .int .i64 (f : Int), .int .i64 (v : Int), .int .i64 (s : Int), .string bd, .slice a n c, .slice a' n' c']] w fun e w' => ∃ a6 k6 c6, e = .returned (.slice a6 k6 c6) ∧ (convert 31 9 (.slice a6 k6 c6)).run Try.prog w' = .ok (.string ⟨(encM ⟨(k : Int), (f : Int), (v : Int), (s : Int), bd, pl, cl⟩).toArray⟩) w' ∧ Below w.heap.size w w' := by
  refine (refPut_any k f v s bd pl cl K a n c a' n' c' w hM).mono ?_
  rintro e w' ⟨r, rfl, hv⟩
  obtain ⟨a3, c3, rfl, h⟩ := conv_buf hv rfl
  exact ⟨a3, _, c3, rfl, h.out.1 w' (Below.refl _ _), hv.2.1⟩

set_option maxHeartbeats 16000000 in
set_option maxRecDepth 100000 in
theorem msgPuts_main (m : Ms) (a : Option Addr) (n c : Nat) (a' : Option Addr) (n' c' : Nat) (w : World) (hM : MsIn w m a n a' n') :
    Calls Try.prog 3 #[.agg (msV m a n c a' n' c')] w fun e w' => e = .returned (.bool true) ∧ Below w.heap.size w w' := by
  obtain ⟨k, f, v, s, bd, pl, cl⟩ := m
  have HM : Hid (MsIn w ⟨k, f, v, s, bd, pl, cl⟩ a n a' n') := hM
  show Calls Try.prog 3 #[.agg #[.int .i64 k, .int .i64 f, .int .i64 v, .int .i64 s, .string bd, .slice a n c, .slice a' n' c']] w _
  obtain ⟨W1, hW1⟩ : ∃ W1, W1 = w.alloc (.cells #[.int .i64 k, .int .i64 f, .int .i64 v, .int .i64 s, .string bd, .slice a n c, .slice a' n' c'] 25) := ⟨_, rfl⟩
  have HW1 : Hid (W1 = _) := hW1
  have hB1 : Below w.heap.size w W1 := by rw [hW1]; exact (Below.refl _ _).alloc (Nat.le_refl _) _
  have HB1 : Hid (Below w.heap.size w W1) := hB1
  have hbx : W1.heap[w.heap.size]? = some (.cells #[.int .i64 k, .int .i64 f, .int .i64 v, .int .i64 s, .string bd, .slice a n c, .slice a' n' c'] 25 (0, 0)) := by rw [hW1]; exact box_new _ _ _
  have HX : Hid (∀ W, Below W1.heap.size W1 W → W.heap[w.heap.size]? = some (.cells #[.int .i64 k, .int .i64 f, .int .i64 v, .int .i64 s, .string bd, .slice a n c, .slice a' n' c'] 25 (0, 0)) ∧ MsIn W ⟨k, f, v, s, bd, pl, cl⟩ a n a' n') := fun W hb => ⟨box_stays hbx hb (Nat.le_refl _), (HM.out.below hB1 (Nat.le_refl _)).below hb (Nat.le_refl _)⟩
  have HU : Hid (Calls _ _ _ _ _) := up_any W1
  have q0 := ee0
  have q1 := ee1
  clear hM hW1 hB1 hbx
  go_enter Try.func3, Try.ntmps3
  go_wp2_with fail
  rw [← HW1.out]
  refine HU.out.mono ?_
  rintro e w2 ⟨rfl, hb2⟩
  have HB2 : Hid (Below W1.heap.size W1 w2) := hb2
  obtain ⟨y0, y1, y2, y3, y4, y5, y6⟩ := seven7 (HX.out _ hb2).1
  have HS : Hid (Calls _ _ _ _ _) := short_any ⟨k, f, v, s, bd, pl, cl⟩ a n c a' n' c' w2 (HX.out _ hb2).2
  clear HU hb2
  go_wp2_with fail
  refine HS.out.mono ?_
  rintro e w3 ⟨b, rfl, hsh, hb3⟩
  have HB3 : Hid (Below W1.heap.size W1 w3) := HB2.out.trans (hb3.mono HB2.out.size)
  have HBF3 : Hid (Below w.heap.size w w3) := HB1.out.trans (HB3.out.mono HB1.out.size)
  have HSH : Hid (b = true → ShM ⟨k, f, v, s, bd, pl, cl⟩) := hsh
  clear hsh hb3 HS y0 y1 y2 y3 y4 y5 y6
  obtain ⟨y0, y1, y2, y3, y4, y5, y6⟩ := seven7 (HX.out _ HB3.out).1
  cases b with
  | false =>
    go_wp2
    go_ret
    exact ⟨by rfl, HBF3.out⟩
  | true =>
    have HSM : Hid (ShM ⟨k, f, v, s, bd, pl, cl⟩) := HSH.out rfl
    clear HSH
    have HCK : Hid (Calls _ _ _ _ _) := check_any ⟨k, f, v, s, bd, pl, cl⟩ a n c a' n' c' w3 (HX.out _ HB3.out).2 HSM.out.fit
    cases hm : mayB ⟨k, f, v, s, bd, pl, cl⟩ with
    | false =>
      rw [hm, if_neg (by simp)] at HCK
      have HMB : Hid (mayB ⟨k, f, v, s, bd, pl, cl⟩ = false) := hm
      clear hm
      go_wp2_with fail
      refine HCK.out.mono ?_
      rintro e w4 ⟨rfl, hb4⟩
      have HB4 : Hid (Below W1.heap.size W1 w4) := HB3.out.trans (hb4.mono HB3.out.size)
      have HPT : Hid (Calls _ _ _ _ _) := put_no ⟨k, f, v, s, bd, pl, cl⟩ a n c a' n' c' w4 (HX.out _ HB4.out).2 HSM.out.fit HMB.out
      clear HCK hb4 y0 y1 y2 y3 y4 y5 y6
      obtain ⟨y0, y1, y2, y3, y4, y5, y6⟩ := seven7 (HX.out _ HB4.out).1
      go_wp2_with fail
      refine HPT.out.mono ?_
      rintro e w5 ⟨rfl, hb5⟩
      have HB5 : Hid (Below W1.heap.size W1 w5) := HB4.out.trans (hb5.mono HB4.out.size)
      have HMY : Hid (Calls _ _ _ _ _) := may_any ⟨k, f, v, s, bd, pl, cl⟩ a n c a' n' c' w5 (HX.out _ HB5.out).2 HSM.out
      clear HPT hb5 y0 y1 y2 y3 y4 y5 y6
      obtain ⟨y0, y1, y2, y3, y4, y5, y6⟩ := seven7 (HX.out _ HB5.out).1
      go_wp2_with fail
      refine HMY.out.mono ?_
      rintro e w6 ⟨rfl, hb6⟩
      have HBF : Hid (Below w.heap.size w w6) := HB1.out.trans ((HB5.out.trans (hb6.mono HB5.out.size)).mono HB1.out.size)
      rw [HMB.out]
      clear HMY hb6 y0 y1 y2 y3 y4 y5 y6
      go_wp2
      go_ret
      exact ⟨by rfl, HBF.out⟩
    | true =>
      rw [hm, if_pos rfl] at HCK
      have HMB : Hid (mayB ⟨k, f, v, s, bd, pl, cl⟩ = true) := hm
      have hK := mayB_iff.1 hm
      have k1 := hK.k
      have k2 := hK.f
      have k3 := hK.v
      have k4 := hK.s
      have HK : Hid (MsOk ⟨k, f, v, s, bd, pl, cl⟩) := hK
      simp only at k1 k2 k3 k4
      clear hm hK
      obtain ⟨k, rfl⟩ : ∃ z : Nat, k = (z : Int) := ⟨k.toNat, by omega⟩
      obtain ⟨f, rfl⟩ : ∃ z : Nat, f = (z : Int) := ⟨f.toNat, by omega⟩
      obtain ⟨v, rfl⟩ : ∃ z : Nat, v = (z : Int) := ⟨v.toNat, by omega⟩
      obtain ⟨s, rfl⟩ : ∃ z : Nat, s = (z : Int) := ⟨s.toNat, by omega⟩
      clear k1 k2 k3 k4
      go_wp2_with fail
      refine HCK.out.mono ?_
      rintro e w4 ⟨rfl, hb4⟩
      have HB4 : Hid (Below W1.heap.size W1 w4) := HB3.out.trans (hb4.mono HB3.out.size)
      have HPT : Hid (Calls _ _ _ _ _) := put_ok ⟨(k : Int), (f : Int), (v : Int), (s : Int), bd, pl, cl⟩ a n c a' n' c' w4 (HX.out _ HB4.out).2 HK.out
      clear HCK hb4 y0 y1 y2 y3 y4 y5 y6
      obtain ⟨y0, y1, y2, y3, y4, y5, y6⟩ := seven7 (HX.out _ HB4.out).1
      go_wp2_with fail
      refine HPT.out.mono ?_
      rintro e w5 ⟨r5, rfl, hv5⟩
      obtain ⟨a7, c7, rfl, HV⟩ := conv_buf hv5 rfl
      have HB5 : Hid (Below W1.heap.size W1 w5) := HB4.out.trans (hv5.2.1.mono HB4.out.size)
      have HMY : Hid (Calls _ _ _ _ _) := may_any ⟨(k : Int), (f : Int), (v : Int), (s : Int), bd, pl, cl⟩ a n c a' n' c' w5 (HX.out _ HB5.out).2 HSM.out
      clear HPT hv5 y0 y1 y2 y3 y4 y5 y6
      obtain ⟨y0, y1, y2, y3, y4, y5, y6⟩ := seven7 (HX.out _ HB5.out).1
      generalize (encM ⟨(k : Int), (f : Int), (v : Int), (s : Int), bd, pl, cl⟩).length = ne at HV ⊢
      go_wp2_with fail
      refine HMY.out.mono ?_
      rintro e w6 ⟨rfl, hb6⟩
      have HB6 : Hid (Below W1.heap.size W1 w6) := HB5.out.trans (hb6.mono HB5.out.size)
      have HCV : Hid (∀ W, Below w6.heap.size w6 W → (convert 31 9 (.slice a7 ne c7)).run Try.prog W = .ok (.string ⟨(encM ⟨(k : Int), (f : Int), (v : Int), (s : Int), bd, pl, cl⟩).toArray⟩) W) := fun W hb => HV.out.1 W (hb6.trans (hb.mono hb6.size))
      rw [HMB.out]
      clear HMY hb6 HV y0 y1 y2 y3 y4 y5 y6
      have HSS : Hid (∀ W, Below w6.heap.size w6 W → (Below w6.heap.size w6 W ∧ (convert 31 9 (.slice a7 ne c7)).run Try.prog W = .ok (.string ⟨(encM ⟨(k : Int), (f : Int), (v : Int), (s : Int), bd, pl, cl⟩).toArray⟩) W) ∧ W.cell? ⟨w.heap.size, 0, none⟩ = some (.int .i64 (k : Int)) ∧ W.cell? ⟨w.heap.size, 1, none⟩ = some (.int .i64 (f : Int)) ∧ W.cell? ⟨w.heap.size, 2, none⟩ = some (.int .i64 (v : Int)) ∧ W.cell? ⟨w.heap.size, 3, none⟩ = some (.int .i64 (s : Int)) ∧ W.cell? ⟨w.heap.size, 4, none⟩ = some (.string bd) ∧ W.cell? ⟨w.heap.size, 5, none⟩ = some (.slice a n c) ∧ W.cell? ⟨w.heap.size, 6, none⟩ = some (.slice a' n' c')) := fun W hb => ⟨⟨hb, HCV.out W hb⟩, seven7 (HX.out W (HB6.out.trans (hb.mono HB6.out.size))).1⟩
      have HRP : Hid (∀ W, Below w6.heap.size w6 W → Calls Try.prog 14 #[.agg #[.int .i64 (k : Int), .int .i64 (f : Int), .int .i64 (v : Int), .int .i64 (s : Int), .string bd, .slice a n c, .slice a' n' c']] W fun e w' => ∃ a6 k6 c6, e = .returned (.slice a6 k6 c6) ∧ (convert 31 9 (.slice a6 k6 c6)).run Try.prog w' = .ok (.string ⟨(encM ⟨(k : Int), (f : Int), (v : Int), (s : Int), bd, pl, cl⟩).toArray⟩) w' ∧ ((Below w6.heap.size w6 w' ∧ (convert 31 9 (.slice a7 ne c7)).run Try.prog w' = .ok (.string ⟨(encM ⟨(k : Int), (f : Int), (v : Int), (s : Int), bd, pl, cl⟩).toArray⟩) w') ∧ w'.cell? ⟨w.heap.size, 0, none⟩ = some (.int .i64 (k : Int)) ∧ w'.cell? ⟨w.heap.size, 1, none⟩ = some (.int .i64 (f : Int)) ∧ w'.cell? ⟨w.heap.size, 2, none⟩ = some (.int .i64 (v : Int)) ∧ w'.cell? ⟨w.heap.size, 3, none⟩ = some (.int .i64 (s : Int)) ∧ w'.cell? ⟨w.heap.size, 4, none⟩ = some (.string bd) ∧ w'.cell? ⟨w.heap.size, 5, none⟩ = some (.slice a n c) ∧ w'.cell? ⟨w.heap.size, 6, none⟩ = some (.slice a' n' c'))) := fun W hW => by
        refine (refPut_tell HK.out (HX.out W (HB6.out.trans (hW.mono HB6.out.size))).2).mono ?_
        rintro e w' ⟨a6, k6, c6, rfl, h1, h2⟩
        exact ⟨a6, k6, c6, rfl, h1, HSS.out _ (hW.trans (h2.mono hW.size))⟩
      have HC0 := HSS.out w6.drew (Below.refl _ _).drew
      generalize (⟨(encM ⟨(k : Int), (f : Int), (v : Int), (s : Int), bd, pl, cl⟩).toArray⟩ : ByteArray) = sb at HRP HC0 HSS HCV
      clear HCV HSS
      have HBX : Hid (Below w.heap.size w w6) := HB1.out.trans (HB6.out.mono HB1.out.size)
      go_wp2_with fail
      go_region_held (fun W => (Below w6.heap.size w6 W ∧ (convert 31 9 (.slice a7 ne c7)).run Try.prog W = .ok (.string sb) W) ∧ W.cell? ⟨w.heap.size, 0, none⟩ = some (.int .i64 (k : Int)) ∧ W.cell? ⟨w.heap.size, 1, none⟩ = some (.int .i64 (f : Int)) ∧ W.cell? ⟨w.heap.size, 2, none⟩ = some (.int .i64 (v : Int)) ∧ W.cell? ⟨w.heap.size, 3, none⟩ = some (.int .i64 (s : Int)) ∧ W.cell? ⟨w.heap.size, 4, none⟩ = some (.string bd) ∧ W.cell? ⟨w.heap.size, 5, none⟩ = some (.slice a n c) ∧ W.cell? ⟨w.heap.size, 6, none⟩ = some (.slice a' n' c'))
        (first | assumption | exact HC0)
        (first | (go_at_call 14; refine (HRP.out _ (by first | (rename_i hS; exact hS.1.1) | exact HC0.1.1)).mono ?_; rintro e w8 ⟨a6, k6, c6, rfl, hc6, hS6⟩))
      all_goals
        have HB8 : Hid (Below w.heap.size w w8) := HBX.out.trans (hS6.1.1.mono HBX.out.size)
        clear hc6 hS6 HRP HC0
        go_wp2
        go_ret
        exact ⟨by first | rfl | simp, HB8.out⟩

theorem msgPuts_walk (m : Ms) (a : Option Addr) (n c : Nat) (a' : Option Addr) (n' c' : Nat) (w : World) (hM : MsIn w m a n a' n') :
    Calls Try.prog 3 #[.agg (msV m a n c a' n' c')] w fun e w' => e = .returned (.bool true) ∧ Below w.heap.size w w' := msgPuts_main m a n c a' n' c' w hM
end Go.Proofs.Ytbcemghkmmbmdaa.Msg
