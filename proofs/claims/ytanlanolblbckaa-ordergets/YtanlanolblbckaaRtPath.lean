/-
  Parts in one text: the program's 'newPath' and 'Join', and the document's test of a path.
-/
import Derived.Test.YtanlanolblbckaaRtCut
import Derived.Test.YtanlanolblbckaaShelf
namespace Go.Proofs.Ytanlanolblbckaa.Route
open Go.RowKit

set_option maxHeartbeats 1000000 in
theorem clone_any (s : ByteArray) (w : World) (hs : s.size ≤ 140737488355328) :
    Calls Try.prog 50 #[.string s] w fun e w' => e = .returned (.string s) ∧ Below w.heap.size w w' := by
  go_enter Try.func50, Try.ntmps50
  go_wp2_with fail
  refine (Try.stringslite_Clone s w (by omega)).mono ?_
  rintro e w1 ⟨rfl, hb⟩
  go_wp2
  go_ret
  exact ⟨rfl, hb⟩

theorem extract_size_le (s : ByteArray) (i j : Nat) : (s.extract i j).size ≤ s.size := by
  rw [ByteArray.size_extract]; omega

theorem pieces_size (s : ByteArray) (fuel start i : Nat) : ∀ x ∈ pieces s fuel start i, x.size ≤ s.size := by
  induction fuel generalizing start i with
  | zero => intro x hx; simp [pieces] at hx; subst hx; exact extract_size_le _ _ _
  | succ f ih =>
    intro x hx
    simp only [pieces] at hx
    split at hx
    · split at hx
      · rcases List.mem_cons.1 hx with rfl | hx
        · exact extract_size_le _ _ _
        · exact ih _ _ x hx
      · exact ih _ _ x hx
    · simp at hx; subst hx; exact extract_size_le _ _ _

theorem pieces_count (s : ByteArray) (fuel start i : Nat) : (pieces s fuel start i).length ≤ fuel + 1 := by
  induction fuel generalizing start i with
  | zero => simp [pieces]
  | succ f ih =>
    simp only [pieces]
    split
    · split
      · have := ih (i + 1) (i + 1); simp only [List.length_cons]; omega
      · have := ih start (i + 1); omega
    · simp

theorem parts_count (s : ByteArray) : (parts s).length ≤ s.size + 1 := pieces_count s _ _ _
theorem parts_size (s : ByteArray) : ∀ x ∈ parts s, x.size ≤ s.size := pieces_size s _ _ _

set_option maxHeartbeats 1000000 in
theorem path_any (s : ByteArray) (w : World) (hs : s.size ≤ 100000) :
    Calls Try.prog 32 #[.string s] w fun e w' => e = .returned (.bool (isPath s)) ∧ Below w.heap.size w w' := by
  obtain ⟨n, hn⟩ : ∃ n, n = (parts s).length := ⟨_, rfl⟩
  have hnn : n ≤ 100001 := by rw [hn]; have := parts_count s; omega
  have h2 : Hid (∀ a1 cap1 w1, Lies w1 a1 (parts s) → Calls Try.prog 41 #[.slice a1 n cap1] w1 fun e w' => e = .returned (.bool (isPath s)) ∧ w1 = w') := fun a1 cap1 w1 h1 =>
    refParts_any a1 (parts s) n cap1 w1 hn h1 (by omega) (fun x hx => by have := parts_size s x hx; omega)
  have HN : Hid (n = (parts s).length) := hn
  clear hn
  generalize isPath s = r at h2
  go_enter Try.func32, Try.ntmps32
  go_wp2_with (first | (go_at_call 42; refine (split_any s w hs).mono ?_; rintro e w1 ⟨v, rfl, hb⟩; obtain ⟨a1, cap1, rfl, hc1, hcm1, hl1⟩ := hb.liesN HN.out) | (go_at_call 41; refine (h2.out _ _ _ hl1).mono ?_; rintro e w2 ⟨rfl, rfl⟩))
  go_ret
  exact ⟨rfl, hb.2.1⟩
end Go.Proofs.Ytanlanolblbckaa.Route
