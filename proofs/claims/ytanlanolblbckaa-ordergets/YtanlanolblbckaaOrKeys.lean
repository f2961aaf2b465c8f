/-
  The contract of areKeys, and of the answer's Same of two lists.
-/
import Derived.Test.YtanlanolblbckaaOrLeaf
namespace Go.Proofs.Ytanlanolblbckaa.Order
open Go.RowKit Route

theorem keys_drop {l : List ByteArray} {k : Nat} (h : k < l.length) : (l.drop k).all keyOk = (keyOk (l.getD k ByteArray.empty) && (l.drop (k + 1)).all keyOk) := by
  rw [List.drop_eq_getElem_cons h, List.all_cons]
  simp [List.getD_eq_getElem?_getD, List.getElem?_eq_getElem h]

set_option maxHeartbeats 4000000 in
set_option maxRecDepth 100000 in
theorem areKeys_any (a : Option Addr) (l : List ByteArray) (k cap : Nat) (w : World) (hk : k = l.length) (hl : Route.Lies w a l) (hm : k ≤ 140737488355328) :
    Calls Try.prog 39 #[.slice a k cap] w fun e w' => e = .returned (.bool (keysOk l)) ∧ w' = w := by
  obtain ⟨r, hr⟩ : ∃ r, r = keysOk l := ⟨_, rfl⟩
  rw [← hr]
  by_cases hk8 : 16 < k
  · have e : r = false := by rw [hr, keysOk, decide_eq_false (by omega), Bool.false_and]
    subst e
    clear hk hl hr
    go_enter Try.func39, Try.ntmps39
    go_wp2
    go_ret
    exact ⟨rfl, rfl⟩
  · have HR : Hid (r = l.all keyOk) := by show r = _; rw [hr, keysOk, decide_eq_true (by omega), Bool.true_and]
    have HK : Hid (k = l.length) := hk
    have HL : Hid (Route.Lies w a l) := hl
    clear hr hk hl
    go_enter Try.func39, Try.ntmps39
    go_wp2
    go_loop [2, 10] (fun t2 t3 => t2 = .bool false ∧ ∃ j : Nat, t3 = .int .i64 j ∧ j ≤ k ∧ Hid (r = (l.drop j).all keyOk)) (fun _ t3 => k - (intOf t3).toNat)
    case atStart => exact ⟨rfl, 0, rfl, by omega, by show r = _; rw [List.drop_zero]; exact HR.out⟩
    case round =>
      obtain ⟨rfl, j, rfl, hj, HJ⟩ := hrel
      by_cases hjk : j < k
      · have hjl : j < l.length := by rw [← HK.out]; exact hjk
        obtain ⟨b, off, rfl, hc⟩ := HL.out.at (by omega)
        have hcell := hc j hjl
        have hall := keys_drop hjl
        obtain ⟨x, hx⟩ : ∃ x, x = l.getD j ByteArray.empty := ⟨_, rfl⟩
        rw [← hx] at hcell hall
        have HX : Hid ((l.drop j).all keyOk = (keyOk x && (l.drop (j + 1)).all keyOk)) := hall
        obtain ⟨z, hz⟩ : ∃ z, z = x.size := ⟨_, rfl⟩
        have hlen := len_text x z hz
        have HW : Hid (∀ w, Calls Try.prog 27 #[.int .i64 (z : Int), .int .i64 1, .int .i64 64] w fun e w' => e = .returned (.bool (keyOk x)) ∧ w' = w) := fun w => by
          have := within_any (z : Int) 1 64 w
          rw [hz] at this ⊢
          exact this
        clear hx hall hjl hc hz
        cases hp : keyOk x with
        | true =>
          go_wp2_with fail
          refine (HW.out _).mono ?_
          rintro e w1 ⟨rfl, rfl⟩
          rw [hp]
          go_wp2
          go_round
          case rel => exact ⟨rfl, j + 1, by go_num, by omega, by show r = _; rw [HJ.out, HX.out, hp, Bool.true_and]⟩
          case measure => simp [intOf]; omega
        | false =>
          have hr : r = false := by rw [HJ.out, HX.out, hp, Bool.false_and]
          go_wp2_with fail
          refine (HW.out _).mono ?_
          rintro e w1 ⟨rfl, rfl⟩
          rw [hp]
          go_wp2
          go_ret
          exact ⟨by first | rfl | (rw [hr]; rfl), rfl⟩
      · have hr : r = true := by rw [HJ.out, List.drop_of_length_le (by rw [← HK.out]; omega)]; rfl
        go_wp2
        go_ret
        exact ⟨by first | rfl | (rw [hr]; rfl), rfl⟩

set_option maxHeartbeats 4000000 in
set_option maxRecDepth 100000 in
theorem sameL_any (a : Option Addr) (l : List ByteArray) (k cap : Nat) (a' : Option Addr) (m : List ByteArray) (k' cap' : Nat) (w : World) (hk : k = l.length) (hl : Route.Lies w a l) (hk' : k' = m.length) (hl' : Route.Lies w a' m) (hm : k ≤ 140737488355328) (hm' : k' ≤ 140737488355328) :
    Calls Try.prog 26 #[.slice a k cap, .slice a' k' cap'] w fun e w' => e = .returned (.bool (decide (l = m))) ∧ Below w.heap.size w w' := by
  by_cases hkk : k = k'
  · subst hkk
    by_cases h0 : k = 0
    · have e1 : l = [] := List.eq_nil_of_length_eq_zero (by omega)
      have e2 : m = [] := List.eq_nil_of_length_eq_zero (by omega)
      subst e1; subst e2; subst h0
      clear hk hk' hl hl'
      go_enter Try.func26, Try.ntmps26
      go_wp2
      go_loop [5] (fun t5 => t5 = .int .i64 0) (fun _ => 0)
      case atStart => rfl
      case round =>
        subst hrel
        go_wp2
        go_ret
        exact ⟨rfl, Below.refl _ _⟩
    · obtain ⟨b, off, rfl, hc⟩ := Route.Lies.at hl (by omega)
      obtain ⟨b', off', rfl, hc'⟩ := Route.Lies.at hl' (by omega)
      obtain ⟨r, hr⟩ : ∃ r, r = decide (l = m) := ⟨_, rfl⟩
      have HR : Hid (r = decide (l = m)) := hr
      rw [← hr]
      have HK : Hid (k = l.length) := hk
      have HK' : Hid (k = m.length) := hk'
      have HC : Hid (∀ j, j < l.length → w.cell? ⟨b, off + j, none⟩ = some (.string (l.getD j ByteArray.empty))) := hc
      have HC' : Hid (∀ j, j < m.length → w.cell? ⟨b', off' + j, none⟩ = some (.string (m.getD j ByteArray.empty))) := hc'
      clear hr hk hk' hc hc' hl hl'
      go_enter Try.func26, Try.ntmps26
      go_wp2
      go_loopw [4, 5] (fun t4 t5 wr => t4 = .bool false ∧ ∃ j : Nat, t5 = .int .i64 j ∧ j ≤ k ∧ Below w.heap.size w wr ∧ Hid (r = decide (l.drop j = m.drop j))) (fun _ t5 _ => k - (intOf t5).toNat)
      case atStart => exact ⟨rfl, 0, rfl, by omega, Below.refl _ _, by show r = _; rw [List.drop_zero, List.drop_zero]; exact HR.out⟩
      case round =>
        obtain ⟨rfl, j, rfl, hj, hbw, HJ⟩ := hrel
        by_cases hjk : j < k
        · have hjl : j < l.length := by rw [← HK.out]; exact hjk
          have hjm : j < m.length := by rw [← HK'.out]; exact hjk
          have hcell := cell_later hbw (HC.out j hjl)
          have hcell' := cell_later hbw (HC'.out j hjm)
          have hall := drop_step hjl hjm
          obtain ⟨x, hx⟩ : ∃ x, x = l.getD j ByteArray.empty := ⟨_, rfl⟩
          obtain ⟨y, hy⟩ : ∃ y, y = m.getD j ByteArray.empty := ⟨_, rfl⟩
          rw [← hx] at hcell hall
          rw [← hy] at hcell' hall
          have HX : Hid (decide (l.drop j = m.drop j) = (decide (x = y) && decide (l.drop (j + 1) = m.drop (j + 1)))) := hall
          clear hx hy hall hjl hjm
          have hse := str_eq x y
          by_cases hxy : x = y
          · rw [decide_eq_true hxy] at hse
            go_wp2
            go_region
            go_wp2
            go_roundw
            case rel => exact ⟨rfl, j + 1, by go_num, by omega, hbw.drew, by show r = _; rw [HJ.out, HX.out, decide_eq_true hxy, Bool.true_and]⟩
            case measure => simp [intOf]; omega
          · rw [decide_eq_false hxy] at hse
            have hr : r = false := by rw [HJ.out, HX.out, decide_eq_false hxy, Bool.false_and]
            go_wp2
            go_region
            go_wp2
            go_ret
            exact ⟨by first | rfl | (rw [hr]; rfl), hbw.drew⟩
        · have hr : r = true := by rw [HJ.out, List.drop_of_length_le (by rw [← HK.out]; omega), List.drop_of_length_le (by rw [← HK'.out]; omega)]; rfl
          go_wp2
          go_ret
          exact ⟨by first | rfl | (rw [hr]; rfl), hbw⟩
  · have e : decide (l = m) = false := decide_eq_false (fun e => hkk (by rw [hk, hk', e]))
    rw [e]
    clear hk hk' hl hl' e
    go_enter Try.func26, Try.ntmps26
    go_wp2
    go_ret
    exact ⟨rfl, Below.refl _ _⟩
end Go.Proofs.Ytanlanolblbckaa.Order
