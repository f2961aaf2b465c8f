/-
  Parts in one text: the program's 'newPath' and 'Join', and the document's test of a path.
-/
import Derived.Test.YtcjkficpiedpfabDoorRtCut
import Derived.Test.YtcjkficpiedpfabDoorShelf
namespace Go.Proofs.YtcjkficpiedpfabDoor.Route
open Go.RowKit

set_option maxHeartbeats 1000000 in
theorem clone_any (s : ByteArray) (w : World) (hs : s.size ≤ 140737488355328) :
    Calls Tryd.prog 21 #[.string s] w fun e w' => e = .returned (.string s) ∧ Below w.heap.size w w' := by
  go_enter Tryd.func21, Tryd.ntmps21
  go_wp2_with fail
  refine (Tryd.stringslite_Clone s w (by omega)).mono ?_
  rintro e w1 ⟨rfl, hb⟩
  go_wp2
  go_ret
  exact ⟨rfl, hb⟩

theorem extract_size_le (s : ByteArray) (i j : Nat) : (s.extract i j).size ≤ s.size := by
  rw [ByteArray.size_extract]; omega

theorem pieces_size (s : ByteArray) (fuel start i : Nat) : ∀ x ∈ pieces s fuel start i, x.size ≤ s.size := by
  induction fuel generalizing start i with
  | zero => intro x hx; simp [pieces] at hx; subst hx; exact extract_size_le _ _ _
  | succ f ih =>
    intro x hx
    simp only [pieces] at hx
    split at hx
    · split at hx
      · rcases List.mem_cons.1 hx with rfl | hx
        · exact extract_size_le _ _ _
        · exact ih _ _ x hx
      · exact ih _ _ x hx
    · simp at hx; subst hx; exact extract_size_le _ _ _

theorem pieces_count (s : ByteArray) (fuel start i : Nat) : (pieces s fuel start i).length ≤ fuel + 1 := by
  induction fuel generalizing start i with
  | zero => simp [pieces]
  | succ f ih =>
    simp only [pieces]
    split
    · split
      · have := ih (i + 1) (i + 1); simp only [List.length_cons]; omega
      · have := ih start (i + 1); omega
    · simp

theorem parts_count (s : ByteArray) : (parts s).length ≤ s.size + 1 := pieces_count s _ _ _
theorem parts_size (s : ByteArray) : ∀ x ∈ parts s, x.size ≤ s.size := pieces_size s _ _ _
end Go.Proofs.YtcjkficpiedpfabDoor.Route
