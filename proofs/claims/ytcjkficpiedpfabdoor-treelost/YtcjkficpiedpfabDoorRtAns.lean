/-
  The program's answers: 'Check', 'Parts', 'Parent', 'Under', each for every text; and the document's 'Under'.
-/
import Derived.Test.YtcjkficpiedpfabDoorRtPath
namespace Go.Proofs.YtcjkficpiedpfabDoor.Route
open Go.RowKit

theorem cut_ok (s : ByteArray) (w : World) (hs : s.size ≤ 100000) (hp : isPath s = true) :
    Calls Tryd.prog 43 #[.string s] w fun e w' => ∃ v, e = .returned (.tuple #[v, .bool true]) ∧ Strs w.heap.size v (parts s) w w' := by
  have := cut_any s w hs
  rw [hp, if_pos rfl] at this
  exact this

theorem cut_no (s : ByteArray) (w : World) (hs : s.size ≤ 100000) (hp : isPath s = false) :
    Calls Tryd.prog 43 #[.string s] w fun e w' => ∃ v, e = .returned (.tuple #[v, .bool false]) ∧ Below w.heap.size w w' := by
  have := cut_any s w hs
  rw [hp] at this
  refine this.mono ?_
  rintro e w1 ⟨v, rfl, hb⟩
  exact ⟨v, rfl, hb.2.1⟩

theorem path_len {s : ByteArray} (hp : isPath s = true) : 1 ≤ (parts s).length ∧ (parts s).length ≤ 8 := by
  simp only [isPath, arePath, Bool.and_eq_true, decide_eq_true_eq] at hp
  exact hp.1

set_option maxHeartbeats 1000000 in
theorem check_ok (s : ByteArray) (w : World) (hs : s.size ≤ 100000) (hp : isPath s = true) :
    Calls Tryd.prog 26 #[.string s] w fun e w' => e = .returned .nilIface ∧ Below w.heap.size w w' := by
  go_enter Tryd.func26, Tryd.ntmps26
  go_wp2_with (go_at_call 43; refine (cut_ok s w hs hp).mono ?_; rintro e w1 ⟨v, rfl, hb⟩)
  go_ret
  exact ⟨rfl, hb.2.1⟩

set_option maxHeartbeats 1000000 in
theorem check_no (s : ByteArray) (w : World) (hs : s.size ≤ 100000) (hp : isPath s = false) :
    Calls Tryd.prog 26 #[.string s] w fun e w' => e = .returned (.iface 43 (.int .i64 2)) ∧ Below w.heap.size w w' := by
  go_enter Tryd.func26, Tryd.ntmps26
  go_wp2_with (go_at_call 43; refine (cut_no s w hs hp).mono ?_; rintro e w1 ⟨v, rfl, hb⟩)
  go_ret
  exact ⟨rfl, hb⟩


theorem Lies.take {w : World} {a : Option Addr} {l : List ByteArray} (h : Lies w a l) (m : Nat) : Lies w a (l.take m) := by
  rcases h with rfl | ⟨x, rfl, h⟩
  · exact Or.inl (by simp)
  · refine Or.inr ⟨x, rfl, fun j hj => ?_⟩
    rw [List.length_take] at hj
    rw [h j (by omega)]
    simp [List.getD_eq_getElem?_getD, show j < m by omega]
end Go.Proofs.YtcjkficpiedpfabDoor.Route
