/-
  The least functions of tree and of its answer: whether these may be a file's chunks; whether files are few and short; whether a text is among some.
-/
import Derived.Test.YtcjkficpiedpfabDoorTrMath
import Derived.Test.YtcjkficpiedpfabDoorRtUnder
import Derived.Test.YtcjkficpiedpfabDoorChLaw
namespace Go.Proofs.YtcjkficpiedpfabDoor.Tree
open Go.RowKit Route Chunk

set_option maxHeartbeats 4000000 in
set_option maxRecDepth 100000 in
theorem areChunks_any (a : Option Addr) (n cap : Nat) (ks : List ByteArray) (sz : Int) (w : World) (hn0 : n = ks.length) (hl0 : Lies w a ks) (hnm : n ≤ 1000000) (hks : ∀ j, j < n → (ks.getD j ByteArray.empty).size ≤ 1000000) :
    Calls Tryd.prog 42 #[.slice a n cap, .int .i64 sz] w fun e w' => e = .returned (.bool (restB sz 0 ks)) ∧ w' = w := by
  have HN : Hid (n = ks.length) := hn0
  have HL : Hid (Lies w a ks) := hl0
  have HS : Hid (∀ j, j < n → (ks.getD j ByteArray.empty).size ≤ 1000000) := hks
  obtain ⟨r, hr⟩ : ∃ r, r = restB sz 0 ks := ⟨_, rfl⟩
  have HR : Hid (r = restB sz 0 (ks.drop 0)) := by rw [List.drop_zero]; exact hr
  rw [← hr]
  clear hn0 hl0 hks hr
  go_enter Tryd.func42, Tryd.ntmps42
  go_wp2
  go_loop [4, 5, 7, 10] (fun t4 t5 _ t10 => ∃ (i s : Nat), t4 = .bool false ∧ t5 = .int .i64 (s : Int) ∧ t10 = .int .i64 (i : Int) ∧ i ≤ n ∧ s ≤ 1024 ∧ Hid (r = restB sz s (ks.drop i))) (fun _ _ _ t10 => n - (intOf t10).toNat)
  case atStart => exact ⟨0, 0, rfl, rfl, rfl, Nat.zero_le _, by omega, HR⟩
  case round =>
    obtain ⟨i, s, rfl, rfl, rfl, hi, hs, HI⟩ := hrel
    clear HR
    by_cases hin : i < n
    · obtain ⟨x, hx, hc⟩ := HL.out.cellAt (j := i) (by rw [← HN.out]; exact hin)
      subst hx
      have HD := drop_text (l := ks) (i := i) (by rw [← HN.out]; exact hin)
      have hz1 := HS.out i hin
      generalize ks.getD i ByteArray.empty = k at hc HD hz1
      obtain ⟨z, hz⟩ : ∃ z, z = k.size := ⟨_, rfl⟩
      have hlen := Tree.len_text k z hz
      have HI2 : Hid (r = (decide (1 ≤ z ∧ z ≤ 64) && restB sz (s + z) (ks.drop (i + 1)))) := by show _ = _; rw [HI.out, HD, restB, hz]
      rw [← hz] at hz1
      clear HD HI hz
      by_cases h1 : z < 1
      · have hr : r = false := by rw [HI2.out, decide_eq_false (by omega), Bool.false_and]
        go_wp2
        go_ret
        exact ⟨by first | rfl | (rw [hr]; rfl), rfl⟩
      by_cases h2 : 64 < z
      · have hr : r = false := by rw [HI2.out, decide_eq_false (by omega), Bool.false_and]
        go_wp2
        go_ret
        exact ⟨by first | rfl | (rw [hr]; rfl), rfl⟩
      by_cases h3 : 1024 < s + z
      · have hr : r = false := by rw [HI2.out, restB_far _ _ _ h3, Bool.and_false]
        go_wp2
        go_ret
        exact ⟨by first | rfl | (rw [hr]; rfl), rfl⟩
      have HI3 : Hid (r = restB sz (s + z) (ks.drop (i + 1))) := by show _ = _; rw [HI2.out, decide_eq_true (by omega), Bool.true_and]
      clear HI2
      go_wp2
      go_round
      case rel => exact ⟨i + 1, s + z, rfl, by go_num, by go_num, by omega, by omega, HI3⟩
      case measure => simp [intOf]; omega
    · have hr : r = ((s : Int) == sz) := by
        rw [HI.out, List.drop_eq_nil_of_le (by rw [← HN.out]; omega), restB, Bool.beq_eq_decide_eq]
        exact decide_eq_decide.2 (by omega)
      clear HI
      go_wp2
      go_ret
      exact ⟨by first | rfl | (rw [hr]; rfl), rfl⟩
end Go.Proofs.YtcjkficpiedpfabDoor.Tree
