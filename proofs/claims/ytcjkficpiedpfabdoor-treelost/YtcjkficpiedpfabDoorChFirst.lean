/-
  How many bytes the first chunk has: the program's 'firstSize'.
-/
import Derived.Test.YtcjkficpiedpfabDoorChJoin
import Derived.Deep.QuietTactic
namespace Go.Proofs.YtcjkficpiedpfabDoor.Chunk
open Go.RowKit Route

theorem len_ofL (l : List UInt8) (z : Nat) (hz : z = l.length) (w : World) : (Builtin.len_ #[9] 3 #[.string (ofL l)]).run Tryd.prog w = .ok (.int .i64 (z : Int)) w := by
  rw [run_len_string w 9 3 (ofL l) Tryd.underlying9, size_ofL, hz]; rfl

set_option maxHeartbeats 4000000 in
set_option maxRecDepth 100000 in
theorem first_any (l : List UInt8) (m M K : Nat) (w : World) (hm : 1 ≤ m) (hmM : m ≤ M) (hM : M ≤ 64) (hK : K < 256) :
    Calls Tryd.prog 44 #[.string (ofL l), cutV (m : Int) (M : Int) (K : Int)] w fun e w' => e = .returned (.int .i64 (size1 m M K l : Int)) ∧ Below w.heap.size w w' := by
  obtain ⟨z, hz⟩ : ∃ z, z = l.length := ⟨_, rfl⟩
  have HZ : Hid (z = l.length) := hz
  have hlen := len_ofL l z hz
  obtain ⟨F, hF⟩ : ∃ F, F = size1 m M K l := ⟨_, rfl⟩
  have HF : Hid (F = size1 m M K l) := hF
  rw [← hF]
  clear hz hF
  have hzs : Hid (z = (ofL l).size) := by rw [size_ofL]; exact HZ.out
  obtain ⟨q, hqz, hqM, HQ, hmin⟩ : ∃ q : Nat, q ≤ z ∧ q ≤ M ∧ Hid (q = z ∨ q = M) ∧ min (z : Int) (M : Int) = (q : Int) := ⟨min z M, by omega, by omega, by show _ ∨ _; omega, by omega⟩
  have hdrop : Hid (∀ i, i < z → ∃ b : UInt8, l.drop i = b :: l.drop (i + 1) ∧ b.toNat = bt (ofL l) i) := fun i hi => drop_at l i (by rw [← HZ.out]; exact hi)
  unfold cutV
  generalize ofL l = s at hlen hzs hdrop
  go_enter Tryd.func44, Tryd.ntmps44
  go_wp2
  clear hmin
  go_loopw [4, 6, 14] (fun t4 t6 t14 wr => t4 = .int .i64 0 ∧ ∃ (i a : Nat), t6 = .int .u8 (a : Int) ∧ t14 = .int .i64 (i : Int) ∧ i ≤ q ∧ a < 256 ∧ wr.cell? ⟨w.heap.size, 0, none⟩ = some (.int .i64 (m : Int)) ∧ wr.cell? ⟨w.heap.size, 2, none⟩ = some (.int .i64 (K : Int)) ∧ Below w.heap.size w wr ∧ Hid ((i < M ∧ F = i + first m M K a i (l.drop i)) ∨ (i = M ∧ F = M))) (fun _ _ t14 _ => q - (intOf t14).toNat)
  case atStart => exact ⟨rfl, 0, 0, rfl, rfl, by omega, by omega, by simp, by simp, (Below.refl _ _).alloc (Nat.le_refl _) _, .inl ⟨by omega, by rw [HF.out, List.drop_zero, size1]; omega⟩⟩
  case round =>
    obtain ⟨rfl, i, a, rfl, rfl, hi, ha, hc0, hc2, hbw, HI⟩ := hrel
    clear HF
    by_cases hiq : i < q
    · have hix := index_at s i i rfl (by rw [← hzs.out]; omega)
      obtain ⟨c, hcd, hcb⟩ := hdrop.out i (by omega)
      have hb := bt_lt s i
      have HF : F = i + first m M K a i (c :: l.drop (i + 1)) := by
        rcases HI.out with h | h
        · rw [h.2, hcd]
        · omega
      generalize bt s i = b at hix hcb hb
      have hc : Hid (c.toNat = b) := hcb
      clear hcb hcd HI
      by_cases hmi : m ≤ i + 1
      · have hd : decide ((m : Int) ≤ (i : Int) + 1) = true := decide_eq_true (by omega)
        have hme := fun W => mayEnd_any a b K W ha hb hK
        cases hh : has a b K with
        | true =>
          rw [hh] at hme
          have HE : Hid (F = i + 1) := by
            show _ = _
            rw [HF, first_end]
            rw [ends, hc.out, hh, decide_eq_true hmi]
            simp
          clear HF hh
          go_wp2
          go_quiet ((go_at_call 61; exact Calls.quiet_of_same (hme _)))
          go_wp2
          go_ret
          exact ⟨by rw [HE.out]; rfl, by first | exact hbw | exact below_drewN hbw _⟩
        | false =>
          rw [hh] at hme
          have HE : Hid ((i + 1 < M ∧ F = i + 1 + first m M K b (i + 1) (l.drop (i + 1))) ∨ (i + 1 = M ∧ F = M)) := by
            show _ ∨ _
            by_cases hM1 : i + 1 = M
            · refine .inr ⟨hM1, ?_⟩
              rw [HF, first_end, hM1]
              rw [ends, decide_eq_true hM1]; rfl
            · refine .inl ⟨by omega, ?_⟩
              rw [HF, first_on, hc.out, Nat.add_assoc]
              rw [ends, hc.out, hh, decide_eq_false hM1, Bool.and_false]; rfl
          clear HF hh
          go_wp2
          go_quiet ((go_at_call 61; exact Calls.quiet_of_same (hme _)))
          go_wp2
          go_roundw
          case rel => exact ⟨rfl, i + 1, b, rfl, by go_num, by omega, hb, hc0, hc2, below_drewN hbw _, HE⟩
          case measure => simp [intOf]; omega
      · have hd : decide ((m : Int) ≤ (i : Int) + 1) = false := decide_eq_false (by omega)
        have HE : Hid ((i + 1 < M ∧ F = i + 1 + first m M K b (i + 1) (l.drop (i + 1))) ∨ (i + 1 = M ∧ F = M)) := by
          show _ ∨ _
          refine .inl ⟨by omega, ?_⟩
          rw [HF, first_on, hc.out, Nat.add_assoc]
          rw [ends, decide_eq_false (show ¬ i + 1 = M by omega), decide_eq_false hmi]; rfl
        clear HF
        go_wp2
        go_quiet (fail)
        go_wp2
        go_roundw
        case rel => exact ⟨rfl, i + 1, b, rfl, by go_num, by omega, hb, hc0, hc2, below_drewN hbw _, HE⟩
        case measure => simp [intOf]; omega
    · have HE : Hid (F = q) := by
        show _ = _
        rcases HI.out with h | h
        · have hqz' : q = z := by rcases HQ.out with h' | h' <;> omega
          rw [h.2, List.drop_of_length_le (by rw [← HZ.out]; omega), first_nil]
          omega
        · omega
      clear HI
      go_wp2
      go_ret
      exact ⟨by rw [HE.out]; rfl, by first | exact hbw | exact below_drewN hbw _⟩
end Go.Proofs.YtcjkficpiedpfabDoor.Chunk
