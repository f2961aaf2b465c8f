/-
  The contracts of the answer's Op and May.
-/
import Derived.Test.YtanlanolblbckaaOrPut2
namespace Go.Proofs.Ytanlanolblbckaa.Order
open Go.RowKit Route

/-- What holds of every operation that may be. -/
theorem mayOp_all {r : Rq} (h : mayOp r = true) : (1 ≤ r.k ∧ r.k ≤ 9) ∧ (0 ≤ r.n ∧ r.n ≤ 100) ∧ r.ks.length ≤ 16 ∧ r.ks.all keyOk = true := by
  have hm : may ⟨0, 1, r.k, r.n, r.nm, r.pt, r.ks⟩ = true := by
    show (within 0 0 7 && within 1 1 1000 && mayOp r) = true
    rw [h]; rfl
  have o := may_ok hm
  refine ⟨o.k, o.n, o.kl, ?_⟩
  rw [List.all_eq_true]
  intro s hs
  have := o.ks s hs
  show within _ _ _ = true
  rw [within_iff]; omega

theorem not_may {r : Rq} (h : ¬ ((1 ≤ r.k ∧ r.k ≤ 9) ∧ (0 ≤ r.n ∧ r.n ≤ 100) ∧ r.ks.length ≤ 16 ∧ r.ks.all keyOk = true)) : mayOp r = false := by
  cases e : mayOp r with
  | false => rfl
  | true => exact absurd (mayOp_all e) h

theorem isEmpty_yes : ByteArray.empty.toList.isEmpty = true := by rw [ByteArray.toList_eq]; rfl

set_option maxHeartbeats 8000000 in
set_option maxRecDepth 100000 in
theorem refOp_any (c t k n : Int) (nm pt : ByteArray) (ks : List ByteArray) (a : Option Addr) (kn cap : Nat) (w : World) (hnm : nm.size ≤ 100000) (hpt : pt.size ≤ 100000) (hk : KeysAt w a kn cap ks) :
    Calls Try.prog 20 #[.agg #[.int .i64 k, .string nm, .string pt, .slice a kn cap, .int .i64 n]] w fun e w' => e = .returned (.bool (mayOp ⟨c, t, k, n, nm, pt, ks⟩)) ∧ Below w.heap.size w w' := by
  obtain ⟨r, hr⟩ : ∃ r, r = mayOp ⟨c, t, k, n, nm, pt, ks⟩ := ⟨_, rfl⟩
  have HR : Hid (r = mayOp ⟨c, t, k, n, nm, pt, ks⟩) := hr
  rw [← hr]
  clear hr
  have HNO : Hid (¬ ((1 ≤ k ∧ k ≤ 9) ∧ (0 ≤ n ∧ n ≤ 100) ∧ ks.length ≤ 16 ∧ ks.all keyOk = true) → r = false) := fun h => by rw [HR.out]; exact not_may h
  have HW : Hid (Below w.heap.size w (w.alloc (.cells #[.int .i64 k, .string nm, .string pt, .slice a kn cap, .int .i64 n] 24))) := (Below.refl _ _).alloc (Nat.le_refl _) _
  have HK : Hid (kn = ks.length) := hk.len
  have HL : Hid (Route.Lies w a ks) := hk.lies
  have hkm := hk.most
  clear hk
  by_cases hall : 1 ≤ k ∧ k ≤ 9 ∧ 0 ≤ n ∧ n ≤ 100 ∧ kn ≤ 16
  · obtain ⟨h1, h2, h3, h4, h5⟩ := hall
    go_enter Try.func20, Try.ntmps20
    go_wp2
    go_loop [2, 3] (fun t2 t3 => t2 = .bool false ∧ ∃ j : Nat, t3 = .int .i64 j ∧ j ≤ kn ∧ Hid (ks.all keyOk = (ks.drop j).all keyOk)) (fun _ t3 => kn - (intOf t3).toNat)
    case atStart => exact ⟨rfl, 0, rfl, by omega, by rw [List.drop_zero]; exact rfl⟩
    case round =>
      obtain ⟨rfl, j, rfl, hj, HJ⟩ := hrel
      by_cases hjk : j < kn
      · have hjl : j < ks.length := by rw [← HK.out]; exact hjk
        obtain ⟨b, off, rfl, hc⟩ := HL.out.at (by omega)
        have hcell := cell_later HW.out (hc j hjl)
        have hall := keys_drop hjl
        obtain ⟨x, hx⟩ : ∃ x, x = ks.getD j ByteArray.empty := ⟨_, rfl⟩
        rw [← hx] at hcell hall
        have HX : Hid ((ks.drop j).all keyOk = (keyOk x && (ks.drop (j + 1)).all keyOk)) := hall
        obtain ⟨z, hz⟩ : ∃ z, z = x.size := ⟨_, rfl⟩
        have hlen := len_text x z hz
        have HZ : Hid (keyOk x = within (z : Int) 1 64) := by rw [hz]; exact rfl
        clear hx hall hjl hc hz
        by_cases hz1 : z < 1
        · have hr : r = false := HNO.out fun h => by
            have e1 := h.2.2.2
            have e2 : keyOk x = false := by rw [HZ.out, within, decide_eq_false (by omega), Bool.false_and]
            rw [HJ.out, HX.out, e2] at e1; cases e1
          go_wp2
          go_ret
          exact ⟨by first | rfl | (rw [hr]; rfl), HW.out⟩
        · by_cases hz2 : 64 < z
          · have hr : r = false := HNO.out fun h => by
              have e1 := h.2.2.2
              have e2 : keyOk x = false := by rw [HZ.out, within, decide_eq_false (p := (z : Int) ≤ 64) (by omega), Bool.and_false]
              rw [HJ.out, HX.out, e2] at e1; cases e1
            go_wp2
            go_ret
            exact ⟨by first | rfl | (rw [hr]; rfl), HW.out⟩
          · have e2 : keyOk x = true := by rw [HZ.out, within_iff]; omega
            have HJ2 : Hid (ks.all keyOk = (ks.drop (j + 1)).all keyOk) := by rw [HJ.out, HX.out, e2, Bool.true_and]; exact rfl
            clear e2
            go_wp2
            go_round
            case rel => exact ⟨rfl, j + 1, by go_num, by omega, HJ2⟩
            case measure => simp [intOf]; omega
      · have HQ : Hid (keysOk ks = true) := by
          have e : (ks.drop j).all keyOk = true := by rw [List.drop_of_length_le (by rw [← HK.out]; omega)]; rfl
          show (decide (ks.length ≤ 16) && ks.all keyOk) = true
          rw [HJ.out, e, decide_eq_true (by rw [← HK.out]; exact h5)]; rfl
        clear HJ
        go_wp2_with fail
        refine (refName_any nm _ hnm).mono ?_
        rintro e w1 ⟨rfl, rfl⟩
        go_wp2_with fail
        refine (path_any pt _ hpt).mono ?_
        rintro e w2 ⟨rfl, hb2⟩
        have HB2 : Hid (Below w.heap.size w w2) := HW.out.trans (hb2.mono HW.out.size)
        obtain ⟨x0, x1, x2, x3, x4⟩ := five (bcells (heap_alloc_new w _) hb2)
        clear hb2 HW HNO
        have hk9 : k = 1 ∨ k = 3 ∨ k = 4 ∨ k = 7 ∨ k = 2 ∨ k = 6 ∨ k = 8 ∨ k = 5 ∨ k = 9 := by omega
        rcases hk9 with rfl | rfl | rfl | rfl | rfl | rfl | rfl | rfl | rfl
        ·
          have HM : Hid (mayOp ⟨c, t, 1, n, nm, pt, ks⟩ = (isPart nm && noText pt && noKeys ks && isZero n)) := rfl
          clear HQ
          as_aux_lemma =>
            cases q0 : isPart nm with
            | false =>
              go_wp2
              go_ret
              exact ⟨by first | rfl | (rw [HR.out, HM.out, q0]; rfl), HB2.out⟩
            | true =>
              cases q1 : noText pt with
              | false =>
                have t2 := text_ne (s := pt) (by simpa [noText] using q1)
                go_wp2
                go_ret
                exact ⟨by first | rfl | (rw [HR.out, HM.out, q0, q1]; rfl), HB2.out⟩
              | true =>
                have t2 : pt = ByteArray.empty := noText_eq q1
                subst t2
                cases q2 : noKeys ks with
                | false =>
                  have t3 : ((kn : Int) == 0) = false := by
                    have e1 := HK.out; have e2 : ¬ ks.length = 0 := by simpa [noKeys] using q2
                    simp; omega
                  go_wp2
                  go_ret
                  exact ⟨by first | rfl | (rw [HR.out, HM.out, q0, q1, q2]; rfl), HB2.out⟩
                | true =>
                  have t3 : kn = 0 := by rw [HK.out]; simpa [noKeys] using q2
                  subst t3
                  cases q3 : isZero n with
                  | false =>
                    have t4 : (n == 0) = false := by simpa [isZero] using q3
                    go_wp2
                    go_ret
                    exact ⟨by first | rfl | (rw [HR.out, HM.out, q0, q1, q2, q3]; rfl), HB2.out⟩
                  | true =>
                    have t4 : n = 0 := by simpa [isZero] using q3
                    subst t4
                    go_wp2
                    go_ret
                    exact ⟨by first | rfl | (rw [HR.out, HM.out, q0, q1, q2, q3]; rfl), HB2.out⟩
        ·
          have HM : Hid (mayOp ⟨c, t, 3, n, nm, pt, ks⟩ = (isPart nm && noText pt && noKeys ks && isZero n)) := rfl
          clear HQ
          as_aux_lemma =>
            cases q0 : isPart nm with
            | false =>
              go_wp2
              go_ret
              exact ⟨by first | rfl | (rw [HR.out, HM.out, q0]; rfl), HB2.out⟩
            | true =>
              cases q1 : noText pt with
              | false =>
                have t2 := text_ne (s := pt) (by simpa [noText] using q1)
                go_wp2
                go_ret
                exact ⟨by first | rfl | (rw [HR.out, HM.out, q0, q1]; rfl), HB2.out⟩
              | true =>
                have t2 : pt = ByteArray.empty := noText_eq q1
                subst t2
                cases q2 : noKeys ks with
                | false =>
                  have t3 : ((kn : Int) == 0) = false := by
                    have e1 := HK.out; have e2 : ¬ ks.length = 0 := by simpa [noKeys] using q2
                    simp; omega
                  go_wp2
                  go_ret
                  exact ⟨by first | rfl | (rw [HR.out, HM.out, q0, q1, q2]; rfl), HB2.out⟩
                | true =>
                  have t3 : kn = 0 := by rw [HK.out]; simpa [noKeys] using q2
                  subst t3
                  cases q3 : isZero n with
                  | false =>
                    have t4 : (n == 0) = false := by simpa [isZero] using q3
                    go_wp2
                    go_ret
                    exact ⟨by first | rfl | (rw [HR.out, HM.out, q0, q1, q2, q3]; rfl), HB2.out⟩
                  | true =>
                    have t4 : n = 0 := by simpa [isZero] using q3
                    subst t4
                    go_wp2
                    go_ret
                    exact ⟨by first | rfl | (rw [HR.out, HM.out, q0, q1, q2, q3]; rfl), HB2.out⟩
        ·
          have HM : Hid (mayOp ⟨c, t, 4, n, nm, pt, ks⟩ = (isPart nm && noText pt && noKeys ks && isZero n)) := rfl
          clear HQ
          as_aux_lemma =>
            cases q0 : isPart nm with
            | false =>
              go_wp2
              go_ret
              exact ⟨by first | rfl | (rw [HR.out, HM.out, q0]; rfl), HB2.out⟩
            | true =>
              cases q1 : noText pt with
              | false =>
                have t2 := text_ne (s := pt) (by simpa [noText] using q1)
                go_wp2
                go_ret
                exact ⟨by first | rfl | (rw [HR.out, HM.out, q0, q1]; rfl), HB2.out⟩
              | true =>
                have t2 : pt = ByteArray.empty := noText_eq q1
                subst t2
                cases q2 : noKeys ks with
                | false =>
                  have t3 : ((kn : Int) == 0) = false := by
                    have e1 := HK.out; have e2 : ¬ ks.length = 0 := by simpa [noKeys] using q2
                    simp; omega
                  go_wp2
                  go_ret
                  exact ⟨by first | rfl | (rw [HR.out, HM.out, q0, q1, q2]; rfl), HB2.out⟩
                | true =>
                  have t3 : kn = 0 := by rw [HK.out]; simpa [noKeys] using q2
                  subst t3
                  cases q3 : isZero n with
                  | false =>
                    have t4 : (n == 0) = false := by simpa [isZero] using q3
                    go_wp2
                    go_ret
                    exact ⟨by first | rfl | (rw [HR.out, HM.out, q0, q1, q2, q3]; rfl), HB2.out⟩
                  | true =>
                    have t4 : n = 0 := by simpa [isZero] using q3
                    subst t4
                    go_wp2
                    go_ret
                    exact ⟨by first | rfl | (rw [HR.out, HM.out, q0, q1, q2, q3]; rfl), HB2.out⟩
        ·
          have HM : Hid (mayOp ⟨c, t, 7, n, nm, pt, ks⟩ = (isPart nm && noText pt && noKeys ks && isZero n)) := rfl
          clear HQ
          as_aux_lemma =>
            cases q0 : isPart nm with
            | false =>
              go_wp2
              go_ret
              exact ⟨by first | rfl | (rw [HR.out, HM.out, q0]; rfl), HB2.out⟩
            | true =>
              cases q1 : noText pt with
              | false =>
                have t2 := text_ne (s := pt) (by simpa [noText] using q1)
                go_wp2
                go_ret
                exact ⟨by first | rfl | (rw [HR.out, HM.out, q0, q1]; rfl), HB2.out⟩
              | true =>
                have t2 : pt = ByteArray.empty := noText_eq q1
                subst t2
                cases q2 : noKeys ks with
                | false =>
                  have t3 : ((kn : Int) == 0) = false := by
                    have e1 := HK.out; have e2 : ¬ ks.length = 0 := by simpa [noKeys] using q2
                    simp; omega
                  go_wp2
                  go_ret
                  exact ⟨by first | rfl | (rw [HR.out, HM.out, q0, q1, q2]; rfl), HB2.out⟩
                | true =>
                  have t3 : kn = 0 := by rw [HK.out]; simpa [noKeys] using q2
                  subst t3
                  cases q3 : isZero n with
                  | false =>
                    have t4 : (n == 0) = false := by simpa [isZero] using q3
                    go_wp2
                    go_ret
                    exact ⟨by first | rfl | (rw [HR.out, HM.out, q0, q1, q2, q3]; rfl), HB2.out⟩
                  | true =>
                    have t4 : n = 0 := by simpa [isZero] using q3
                    subst t4
                    go_wp2
                    go_ret
                    exact ⟨by first | rfl | (rw [HR.out, HM.out, q0, q1, q2, q3]; rfl), HB2.out⟩
        ·
          have HM : Hid (mayOp ⟨c, t, 2, n, nm, pt, ks⟩ = (isPart nm && isPath pt && isZero n)) := by
            show mayOp _ = _
            rw [show mayOp ⟨c, t, 2, n, nm, pt, ks⟩ = (isPart nm && isPath pt && keysOk ks && isZero n) from rfl, HQ.out, Bool.and_true]
          clear HQ
          as_aux_lemma =>
            cases q0 : isPart nm with
            | false =>
              go_wp2
              go_ret
              exact ⟨by first | rfl | (rw [HR.out, HM.out, q0]; rfl), HB2.out⟩
            | true =>
              cases q1 : isPath pt with
              | false =>
                go_wp2
                go_ret
                exact ⟨by first | rfl | (rw [HR.out, HM.out, q0, q1]; rfl), HB2.out⟩
              | true =>
                cases q2 : isZero n with
                | false =>
                  have t4 : (n == 0) = false := by simpa [isZero] using q2
                  go_wp2
                  go_ret
                  exact ⟨by first | rfl | (rw [HR.out, HM.out, q0, q1, q2]; rfl), HB2.out⟩
                | true =>
                  have t4 : n = 0 := by simpa [isZero] using q2
                  subst t4
                  go_wp2
                  go_ret
                  exact ⟨by first | rfl | (rw [HR.out, HM.out, q0, q1, q2]; rfl), HB2.out⟩
        ·
          have HM : Hid (mayOp ⟨c, t, 6, n, nm, pt, ks⟩ = (isPart nm && isPath pt && noKeys ks && isZero n)) := rfl
          clear HQ
          as_aux_lemma =>
            cases q0 : isPart nm with
            | false =>
              go_wp2
              go_ret
              exact ⟨by first | rfl | (rw [HR.out, HM.out, q0]; rfl), HB2.out⟩
            | true =>
              cases q1 : isPath pt with
              | false =>
                go_wp2
                go_ret
                exact ⟨by first | rfl | (rw [HR.out, HM.out, q0, q1]; rfl), HB2.out⟩
              | true =>
                cases q2 : noKeys ks with
                | false =>
                  have t3 : ((kn : Int) == 0) = false := by
                    have e1 := HK.out; have e2 : ¬ ks.length = 0 := by simpa [noKeys] using q2
                    simp; omega
                  go_wp2
                  go_ret
                  exact ⟨by first | rfl | (rw [HR.out, HM.out, q0, q1, q2]; rfl), HB2.out⟩
                | true =>
                  have t3 : kn = 0 := by rw [HK.out]; simpa [noKeys] using q2
                  subst t3
                  cases q3 : isZero n with
                  | false =>
                    have t4 : (n == 0) = false := by simpa [isZero] using q3
                    go_wp2
                    go_ret
                    exact ⟨by first | rfl | (rw [HR.out, HM.out, q0, q1, q2, q3]; rfl), HB2.out⟩
                  | true =>
                    have t4 : n = 0 := by simpa [isZero] using q3
                    subst t4
                    go_wp2
                    go_ret
                    exact ⟨by first | rfl | (rw [HR.out, HM.out, q0, q1, q2, q3]; rfl), HB2.out⟩
        ·
          have HM : Hid (mayOp ⟨c, t, 8, n, nm, pt, ks⟩ = (noText nm && noText pt && noKeys ks)) := by
            show mayOp _ = _
            rw [show mayOp ⟨c, t, 8, n, nm, pt, ks⟩ = (noText nm && noText pt && noKeys ks && within n 0 100) from rfl, within_iff.2 ⟨h3, h4⟩, Bool.and_true]
          clear HQ
          as_aux_lemma =>
            cases q0 : noText nm with
            | false =>
              have t1 := text_ne (s := nm) (by simpa [noText] using q0)
              go_wp2
              go_ret
              exact ⟨by first | rfl | (rw [HR.out, HM.out, q0]; rfl), HB2.out⟩
            | true =>
              have t1 : nm = ByteArray.empty := noText_eq q0
              subst t1
              cases q1 : noText pt with
              | false =>
                have t2 := text_ne (s := pt) (by simpa [noText] using q1)
                go_wp2
                go_ret
                exact ⟨by first | rfl | (rw [HR.out, HM.out, q0, q1]; rfl), HB2.out⟩
              | true =>
                have t2 : pt = ByteArray.empty := noText_eq q1
                subst t2
                cases q2 : noKeys ks with
                | false =>
                  have t3 : ((kn : Int) == 0) = false := by
                    have e1 := HK.out; have e2 : ¬ ks.length = 0 := by simpa [noKeys] using q2
                    simp; omega
                  go_wp2
                  go_ret
                  exact ⟨by first | rfl | (rw [HR.out, HM.out, q0, q2]; rfl), HB2.out⟩
                | true =>
                  have t3 : kn = 0 := by rw [HK.out]; simpa [noKeys] using q2
                  subst t3
                  go_wp2
                  go_ret
                  exact ⟨by first | rfl | (rw [HR.out, HM.out, q0, q2]; rfl), HB2.out⟩
        ·
          have HM : Hid (mayOp ⟨c, t, 5, n, nm, pt, ks⟩ = (noText nm && noText pt && noKeys ks && isZero n)) := rfl
          clear HQ
          as_aux_lemma =>
            cases q0 : noText nm with
            | false =>
              have t1 := text_ne (s := nm) (by simpa [noText] using q0)
              go_wp2
              go_ret
              exact ⟨by first | rfl | (rw [HR.out, HM.out, q0]; rfl), HB2.out⟩
            | true =>
              have t1 : nm = ByteArray.empty := noText_eq q0
              subst t1
              cases q1 : noText pt with
              | false =>
                have t2 := text_ne (s := pt) (by simpa [noText] using q1)
                go_wp2
                go_ret
                exact ⟨by first | rfl | (rw [HR.out, HM.out, q0, q1]; rfl), HB2.out⟩
              | true =>
                have t2 : pt = ByteArray.empty := noText_eq q1
                subst t2
                cases q2 : noKeys ks with
                | false =>
                  have t3 : ((kn : Int) == 0) = false := by
                    have e1 := HK.out; have e2 : ¬ ks.length = 0 := by simpa [noKeys] using q2
                    simp; omega
                  go_wp2
                  go_ret
                  exact ⟨by first | rfl | (rw [HR.out, HM.out, q0, q2]; rfl), HB2.out⟩
                | true =>
                  have t3 : kn = 0 := by rw [HK.out]; simpa [noKeys] using q2
                  subst t3
                  cases q3 : isZero n with
                  | false =>
                    have t4 : (n == 0) = false := by simpa [isZero] using q3
                    go_wp2
                    go_ret
                    exact ⟨by first | rfl | (rw [HR.out, HM.out, q0, q2, q3]; rfl), HB2.out⟩
                  | true =>
                    have t4 : n = 0 := by simpa [isZero] using q3
                    subst t4
                    go_wp2
                    go_ret
                    exact ⟨by first | rfl | (rw [HR.out, HM.out, q0, q2, q3]; rfl), HB2.out⟩
        ·
          have HM : Hid (mayOp ⟨c, t, 9, n, nm, pt, ks⟩ = (noText nm && noText pt && noKeys ks && isZero n)) := rfl
          clear HQ
          as_aux_lemma =>
            cases q0 : noText nm with
            | false =>
              have t1 := text_ne (s := nm) (by simpa [noText] using q0)
              go_wp2
              go_ret
              exact ⟨by first | rfl | (rw [HR.out, HM.out, q0]; rfl), HB2.out⟩
            | true =>
              have t1 : nm = ByteArray.empty := noText_eq q0
              subst t1
              cases q1 : noText pt with
              | false =>
                have t2 := text_ne (s := pt) (by simpa [noText] using q1)
                go_wp2
                go_ret
                exact ⟨by first | rfl | (rw [HR.out, HM.out, q0, q1]; rfl), HB2.out⟩
              | true =>
                have t2 : pt = ByteArray.empty := noText_eq q1
                subst t2
                cases q2 : noKeys ks with
                | false =>
                  have t3 : ((kn : Int) == 0) = false := by
                    have e1 := HK.out; have e2 : ¬ ks.length = 0 := by simpa [noKeys] using q2
                    simp; omega
                  go_wp2
                  go_ret
                  exact ⟨by first | rfl | (rw [HR.out, HM.out, q0, q2]; rfl), HB2.out⟩
                | true =>
                  have t3 : kn = 0 := by rw [HK.out]; simpa [noKeys] using q2
                  subst t3
                  cases q3 : isZero n with
                  | false =>
                    have t4 : (n == 0) = false := by simpa [isZero] using q3
                    go_wp2
                    go_ret
                    exact ⟨by first | rfl | (rw [HR.out, HM.out, q0, q2, q3]; rfl), HB2.out⟩
                  | true =>
                    have t4 : n = 0 := by simpa [isZero] using q3
                    subst t4
                    go_wp2
                    go_ret
                    exact ⟨by first | rfl | (rw [HR.out, HM.out, q0, q2, q3]; rfl), HB2.out⟩
  · have hr : r = false := HNO.out fun h => hall ⟨h.1.1, h.1.2, h.2.1.1, h.2.1.2, by rw [HK.out]; exact h.2.2.1⟩
    subst hr
    clear HR HNO HL HK
    by_cases g1 : k < 1
    · go_enter Try.func20, Try.ntmps20
      go_wp2
      go_ret
      exact ⟨rfl, HW.out⟩
    · by_cases g2 : 9 < k
      · go_enter Try.func20, Try.ntmps20
        go_wp2
        go_ret
        exact ⟨rfl, HW.out⟩
      · by_cases g3 : n < 0
        · go_enter Try.func20, Try.ntmps20
          go_wp2
          go_ret
          exact ⟨rfl, HW.out⟩
        · by_cases g4 : 100 < n
          · go_enter Try.func20, Try.ntmps20
            go_wp2
            go_ret
            exact ⟨rfl, HW.out⟩
          · have g5 : 16 < kn := by omega
            clear hall
            go_enter Try.func20, Try.ntmps20
            go_wp2
            go_ret
            exact ⟨rfl, HW.out⟩

set_option maxHeartbeats 2000000 in
set_option maxRecDepth 100000 in
theorem refMay_any (r : Rq) (a : Option Addr) (kn cap : Nat) (w : World) (hnm : r.nm.size ≤ 100000) (hpt : r.pt.size ≤ 100000) (hk : KeysAt w a kn cap r.ks) :
    Calls Try.prog 12 #[.agg (rv r a kn cap)] w fun e w' => e = .returned (.bool (may r)) ∧ Below w.heap.size w w' := by
  obtain ⟨c, t, k, n, nm, pt, ks⟩ := r
  have HR : Hid (may ⟨c, t, k, n, nm, pt, ks⟩ = (within c 0 7 && within t 1 1000 && mayOp ⟨c, t, k, n, nm, pt, ks⟩)) := rfl
  have HO : Hid (∀ w', Below w.heap.size w w' → Calls Try.prog 20 #[.agg #[.int .i64 k, .string nm, .string pt, .slice a kn cap, .int .i64 n]] w' fun e w2 => e = .returned (.bool (mayOp ⟨c, t, k, n, nm, pt, ks⟩)) ∧ Below w'.heap.size w' w2) :=
    fun w' hb => refOp_any c t k n nm pt ks a kn cap w' hnm hpt (hk.below hb)
  clear hnm hpt hk
  generalize mayOp ⟨c, t, k, n, nm, pt, ks⟩ = o at *
  generalize may ⟨c, t, k, n, nm, pt, ks⟩ = m at *
  have HW : Hid (Below w.heap.size w (w.alloc (.cells #[.int .i64 c, .int .i64 t, .int .i64 k, .string nm, .string pt, .slice a kn cap, .int .i64 n] 26))) := (Below.refl _ _).alloc (Nat.le_refl _) _
  show Calls Try.prog 12 #[.agg #[.int .i64 c, .int .i64 t, .int .i64 k, .string nm, .string pt, .slice a kn cap, .int .i64 n]] w _
  go_enter Try.func12, Try.ntmps12
  go_wp2_with fail
  refine (HO.out _ HW.out).mono ?_
  rintro e w1 ⟨rfl, hb⟩
  have HB : Hid (Below w.heap.size w w1) := HW.out.trans (hb.mono HW.out.size)
  obtain ⟨x0, x1, x2, x3, x4, x5, x6⟩ := seven (bcells (heap_alloc_new w _) hb)
  clear hb HW HO
  cases o with
  | false =>
    go_wp2
    go_ret
    exact ⟨by rw [HR.out]; simp, HB.out⟩
  | true =>
    by_cases g1 : 0 ≤ c
    · by_cases g2 : c ≤ 7
      · by_cases g3 : 1 ≤ t
        · by_cases g4 : t ≤ 1000
          · have hm : m = true := by rw [HR.out, within_iff.2 ⟨g1, g2⟩, within_iff.2 ⟨g3, g4⟩]; rfl
            have d4 : decide (t ≤ 1000) = true := decide_eq_true g4
            go_wp2
            go_ret
            exact ⟨by first | rfl | (rw [hm]; rfl), HB.out⟩
          · have hm : m = false := by rw [HR.out, within, within, decide_eq_false g4]; simp
            have d4 : decide (t ≤ 1000) = false := decide_eq_false g4
            go_wp2
            go_ret
            exact ⟨by first | rfl | (rw [hm]; rfl), HB.out⟩
        · have hm : m = false := by rw [HR.out, within, within, decide_eq_false g3]; simp
          go_wp2
          go_ret
          exact ⟨by first | rfl | (rw [hm]; rfl), HB.out⟩
      · have hm : m = false := by rw [HR.out, within, decide_eq_false g2]; simp
        go_wp2
        go_ret
        exact ⟨by first | rfl | (rw [hm]; rfl), HB.out⟩
    · have hm : m = false := by rw [HR.out, within, decide_eq_false g1]; simp
      go_wp2
      go_ret
      exact ⟨by first | rfl | (rw [hm]; rfl), HB.out⟩
end Go.Proofs.Ytanlanolblbckaa.Order
