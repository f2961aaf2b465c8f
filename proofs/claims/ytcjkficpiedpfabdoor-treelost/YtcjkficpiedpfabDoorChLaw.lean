/-
  What all five laws of chunk are walked by: errors held against each other, the cut in a cell of the call's own, texts cut or refused.
-/
import Derived.Test.YtcjkficpiedpfabDoorChSplit
namespace Go.Proofs.YtcjkficpiedpfabDoor.Chunk
open Go.RowKit Route

theorem eqNil (w : World) : (binOp .eql 31 .nilIface .nilIface).run Tryd.prog w = .ok (.bool true) w := by kernel_rfl
theorem neNil (w : World) : (binOp .neq 31 .nilIface .nilIface).run Tryd.prog w = .ok (.bool false) w := by kernel_rfl
theorem eqArg (w : World) : (binOp .eql 31 (.iface 43 (.int .i64 1)) (.iface 43 (.int .i64 1))).run Tryd.prog w = .ok (.bool true) w := by kernel_rfl
theorem eqLarge (w : World) : (binOp .eql 31 (.iface 43 (.int .i64 7)) (.iface 43 (.int .i64 7))).run Tryd.prog w = .ok (.bool true) w := by kernel_rfl
theorem neArg (w : World) : (binOp .neq 31 (.iface 43 (.int .i64 1)) .nilIface).run Tryd.prog w = .ok (.bool true) w := by kernel_rfl
theorem neLarge (w : World) : (binOp .neq 31 (.iface 43 (.int .i64 7)) .nilIface).run Tryd.prog w = .ok (.bool true) w := by kernel_rfl
theorem argNil (w : World) : (binOp .eql 31 (.iface 43 (.int .i64 1)) .nilIface).run Tryd.prog w = .ok (.bool false) w := by kernel_rfl
theorem largeNil (w : World) : (binOp .eql 31 (.iface 43 (.int .i64 7)) .nilIface).run Tryd.prog w = .ok (.bool false) w := by kernel_rfl

/-- The cut in a cell of the call's own: it reads as it did wherever nothing below has turned. -/
theorem box_in {w wr : World} {mn mx mk : Int} (hb : Below (w.alloc (.cells #[.int .i64 mn, .int .i64 mx, .int .i64 mk] 26)).heap.size (w.alloc (.cells #[.int .i64 mn, .int .i64 mx, .int .i64 mk] 26)) wr) :
    wr.cell? ⟨w.heap.size, 0, none⟩ = some (.int .i64 mn) ∧ wr.cell? ⟨w.heap.size, 1, none⟩ = some (.int .i64 mx) ∧ wr.cell? ⟨w.heap.size, 2, none⟩ = some (.int .i64 mk) ∧ Below w.heap.size w wr ∧ w.heap.size < wr.heap.size := by
  have hs := hb.size
  have e : (w.alloc (.cells #[.int .i64 mn, .int .i64 mx, .int .i64 mk] 26)).heap.size = w.heap.size + 1 := by simp
  refine ⟨?_, ?_, ?_, ((Below.refl _ _).alloc (Nat.le_refl _) _).trans (hb.mono (by omega)), by omega⟩
  all_goals
    rw [hb.cell (by show w.heap.size < _; omega)]
    simp

theorem len_text (s : ByteArray) (z : Nat) (hz : z = s.size) (w : World) : (Builtin.len_ #[9] 3 #[.string s]).run Tryd.prog w = .ok (.int .i64 (z : Int)) w := by
  rw [run_len_string w 9 3 s Tryd.underlying9, hz]; rfl
end Go.Proofs.YtcjkficpiedpfabDoor.Chunk
