/-
  What stands between slashes: the document's answer ('Split') and the program's ('cut').
-/
import Derived.Test.YtanlanolblbckaaRtList
namespace Go.Proofs.Ytanlanolblbckaa.Route
open Go.RowKit

set_option maxHeartbeats 4000000 in
set_option maxRecDepth 100000 in
theorem split_any (s : ByteArray) (w : World) (hs : s.size ≤ 100000) :
    Calls Try.prog 42 #[.string s] w fun e w' => ∃ v, e = .returned v ∧ Strs w.heap.size v (parts s) w w' := by
  obtain ⟨z, hz⟩ : ∃ z, z = s.size := ⟨_, rfl⟩
  have HZ : Hid (z = s.size) := hz
  have hlen : ∀ w, (Builtin.len_ #[9] 3 #[.string s]).run Try.prog w = .ok (.int .i64 (z : Int)) w := fun w => by
    rw [run_len_string w 9 3 s Try.underlying9, hz]; rfl
  rw [← hz] at hs
  clear hz
  go_enter Try.func42, Try.ntmps42
  go_wp2
  go_loopw [3, 4, 5] (fun t3 t4 t5 wr => ∃ (i start fuel : Nat) (l : List ByteArray), t4 = .int .i64 start ∧ t5 = .int .i64 i ∧ i ≤ z + 1 ∧ start ≤ i ∧ l.length ≤ i ∧ Strs w.heap.size t3 l w wr ∧ Hid ((i ≤ z ∧ z ≤ i + fuel ∧ parts s = l ++ pieces s fuel start i) ∨ (z < i ∧ parts s = l))) (fun _ _ t5 _ => z + 1 - (intOf t5).toNat)
  case atStart =>
    refine ⟨0, 0, z, [], rfl, rfl, by omega, by omega, by simp, Strs.nil w, .inl ⟨by omega, by omega, ?_⟩⟩
    rw [parts, ← HZ.out]; rfl
  case round =>
    obtain ⟨i, start, fuel, l, rfl, rfl, hi, hst, hll, hb, HP⟩ := hrel
    by_cases hiz : i < z
    · have his : i < s.size := by rw [← HZ.out]; exact hiz
      have hix := index_at s i i rfl his
      obtain ⟨b, hbt⟩ : ∃ b, b = bt s i := ⟨_, rfl⟩
      rw [← hbt] at hix
      have hp : z ≤ i + fuel ∧ parts s = l ++ pieces s fuel start i := by
        rcases HP.out with h | h
        · exact h.2
        · omega
      obtain ⟨f, rfl⟩ : ∃ f, fuel = f + 1 := ⟨fuel - 1, by omega⟩
      by_cases h47 : b = 47
      · have HN : Hid (parts s = (l ++ [s.extract start i]) ++ pieces s f (i + 1) (i + 1)) := by
          have := hp.2
          rw [pieces_slash s f start i his (by omega)] at this
          show _ = _
          rw [this]; simp
        have hf := hp.1
        have hsl : ∀ wx : World, (Instr.slice 9 (.string s) (some (.int .i64 (start : Int))) (some (.int .i64 (i : Int))) none).run Try.prog wx = .ok (.string (s.extract start i)) wx := fun wx => by
          have := run_slice_string (P := Try.prog) wx 9 s .i64 .i64 (start : Int) (i : Int) Try.underlying9 (by omega) (by omega) (by omega)
          simpa using this
        subst h47
        clear hbt HP hp his
        generalize s.extract start i = x at HN hsl
        go_wp2_with (at_builtin; refine wpList_str rfl (.tmp 22) (.tmp 27) rfl w.heap.size _ l rfl w wr x hb rfl (by omega) ?_; intro v' w1 hb1)
        clear hb
        go_wp2
        go_roundw
        case rel => exact ⟨i + 1, i + 1, f, l ++ [x], by go_num, by go_num, by omega, by omega, by simp only [List.length_append, List.length_singleton]; omega, hb1, .inl ⟨by omega, by omega, HN.out⟩⟩
        case measure => simp [intOf]; omega
      · have HN : Hid (parts s = l ++ pieces s f start (i + 1)) := by
          have := hp.2
          rw [pieces_on s f start i his (by omega)] at this
          exact this
        have hf := hp.1
        have hne : ((b : Int) == 47) = false := by simp; omega
        clear hbt HP hp his
        go_wp2
        go_roundw
        case rel => exact ⟨i + 1, start, f, l, by go_num, by go_num, by omega, by omega, by omega, hb, .inl ⟨by omega, by omega, HN.out⟩⟩
        case measure => simp [intOf]; omega
    · by_cases hie : i = z
      · subst hie
        have HN : Hid (parts s = l ++ [s.extract start i]) := by
          rcases HP.out with h | h
          · have := h.2.2
            rw [pieces_end s fuel start i (by rw [← HZ.out]; omega), ← HZ.out] at this
            exact this
          · omega
        have hsl : ∀ wx : World, (Instr.slice 9 (.string s) (some (.int .i64 (start : Int))) (some (.int .i64 (i : Int))) none).run Try.prog wx = .ok (.string (s.extract start i)) wx := fun wx => by
          have hz := HZ.out
          have := run_slice_string (P := Try.prog) wx 9 s .i64 .i64 (start : Int) (i : Int) Try.underlying9 (by omega) (by omega) (by omega)
          simpa using this
        clear HP
        generalize s.extract start i = x at HN hsl
        go_wp2_with (at_builtin; refine wpList_str rfl (.tmp 22) (.tmp 27) rfl w.heap.size _ l rfl w wr x hb rfl (by omega) ?_; intro v' w1 hb1)
        clear hb
        go_wp2
        go_roundw
        case rel => exact ⟨i + 1, i + 1, 0, l ++ [x], by go_num, by go_num, by omega, by omega, by simp only [List.length_append, List.length_singleton]; omega, hb1, .inr ⟨by omega, HN.out⟩⟩
        case measure => simp [intOf]
      · have HN : Hid (parts s = l) := by
          rcases HP.out with h | h
          · omega
          · exact h.2
        clear HP
        go_wp2
        go_ret
        exact ⟨_, rfl, by rw [HN.out]; exact hb⟩

end Go.Proofs.Ytanlanolblbckaa.Route
