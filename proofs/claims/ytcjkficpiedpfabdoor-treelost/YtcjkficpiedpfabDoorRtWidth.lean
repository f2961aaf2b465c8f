/-
  How many bytes the document's own reader finds at a place: 'width', at every place of every text.
-/
import Derived.Test.YtcjkficpiedpfabDoorRtLeaf
namespace Go.Proofs.YtcjkficpiedpfabDoor.Route
open Go.RowKit

/-- 's[i]'. -/
theorem index_at (s : ByteArray) (i : Nat) (j : Int) (hj : j = (i : Int)) (h : i < s.size) (w : World) : (Instr.index 9 (.string s) (.int .i64 j)).run Tryd.prog w = .ok (.int .u8 (bt s i : Int)) w := by
  subst hj
  have := run_index_string (P := Tryd.prog) w 9 s .i64 (i : Int) Tryd.underlying9
  rw [this, dif_pos ⟨by omega, by omega⟩]
  simp [bt_at s i h]

theorem ret_int {a b : Nat} (h : a = b) : Ending.returned (Value.int .i64 (a : Int)) = .returned (.int .i64 (b : Int)) := by rw [h]
end Go.Proofs.YtcjkficpiedpfabDoor.Route
