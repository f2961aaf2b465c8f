/-
  Which characters may be in a part: the program's test and the document's, each as it is.
-/
import Derived.Test.YtcjkficpiedpfabDoorRtMath
import Derived.Test.YtcjkficpiedpfabDoorRtStrs
namespace Go.Proofs.YtcjkficpiedpfabDoor.Route
open Go.RowKit

theorem ret_bool {a b : Bool} (h : a = true ↔ b = true) : Ending.returned (Value.bool a) = .returned (.bool b) := by
  rw [Bool.eq_iff_iff.2 h]

theorem okc_iff (c : Nat) : okc c = true ↔ ((97 ≤ c ∧ c ≤ 122) ∨ (48 ≤ c ∧ c ≤ 57) ∨ c = 95 ∨ c = 45 ∨ c = 46 ∨ (128 ≤ c ∧ c ≠ 65533)) := by
  simp only [okc, Bool.or_eq_true, Bool.and_eq_true, decide_eq_true_eq, beq_iff_eq, bne_iff_ne, ne_eq, or_assoc]

set_option maxHeartbeats 4000000 in
set_option maxRecDepth 100000 in
theorem isOfPart_any (c : Nat) (w : World) : Calls Tryd.prog 70 #[.int .i32 (c : Int)] w fun e w' => e = .returned (.bool (okc c)) ∧ w = w' := by
  go_enter Tryd.func70, Tryd.ntmps70
  go_wp2
  all_goals
    go_ret
    refine ⟨ret_bool ?_, rfl⟩
    rw [okc_iff]
    first | (simp; omega) | (simp at *; omega) | (simp_all; done) | (simp_all; omega)
end Go.Proofs.YtcjkficpiedpfabDoor.Route
