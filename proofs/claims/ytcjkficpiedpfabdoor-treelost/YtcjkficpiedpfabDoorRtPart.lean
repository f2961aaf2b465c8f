/-
  What is a part: the program's test and the document's answer, of every text.
-/
import Derived.Test.YtcjkficpiedpfabDoorRtWidth
import Derived.BigCall
namespace Go.Proofs.YtcjkficpiedpfabDoor.Route
open Go.RowKit

theorem told_over (s : ByteArray) (o : Option Nat) (c : Nat) (h : 16 < c) : told s (o.map (· + c)) = false := by
  cases o with
  | none => rfl
  | some n =>
    show (decide (1 ≤ n + c ∧ n + c ≤ 16) && _ && _) = false
    rw [decide_eq_false (by omega)]; rfl

theorem told_more (s : ByteArray) (o : Option Nat) (c : Nat) : told s ((o.map (· + 1)).map (· + c)) = told s (o.map (· + (c + 1))) := by
  cases o with
  | none => rfl
  | some n =>
    show told s (some (n + 1 + c)) = told s (some (n + (c + 1)))
    congr 2; omega

theorem told_one (s : ByteArray) (c : Nat) : told s ((some 0).map (· + c)) = (decide (1 ≤ c ∧ c ≤ 16) && !(s.toList == [46]) && !(s.toList == [46, 46])) := by
  show told s (some (0 + c)) = _
  rw [Nat.zero_add]
  rfl

theorem told_end (s : ByteArray) (c : Nat) (h : c ≤ 16) : told s ((some 0).map (· + c)) = (decide (1 ≤ c) && !(s.toList == [46]) && !(s.toList == [46, 46])) := by
  show (decide (1 ≤ 0 + c ∧ 0 + c ≤ 16) && _ && _) = _
  congr 3
  simp
  omega

set_option maxHeartbeats 4000000 in
set_option maxRecDepth 100000 in
theorem isPart_any (s : ByteArray) (w : World) :
    Calls Tryd.prog 68 #[.string s] w fun e w' => e = .returned (.bool (isPart s)) ∧ Below w.heap.size w w' := by
  obtain ⟨r, hr⟩ : ∃ r, r = isPart s := ⟨_, rfl⟩
  have HR : Hid (r = isPart s) := hr
  rw [← hr]
  clear hr
  go_enter Tryd.func68, Tryd.ntmps68
  go_wp2
  go_loopw [2, 3] (fun t2 t3 wr => t2 = .bool false ∧ ∃ (pos fuel c : Nat), t3 = .int .i64 c ∧ c ≤ 16 ∧ wr.heap[w.heap.size]? = some (.stringIter s pos) ∧ Below w.heap.size w wr ∧ Hid (r = told s ((runes s fuel pos).map (· + c))) ∧ s.size ≤ pos + fuel) (fun _ _ wr => s.size - wr.iterPos w.heap.size)
  case atStart =>
    refine ⟨rfl, 0, s.size, 0, rfl, by omega, World.iter_heap w s 0, (Below.refl _ w).alloc (Nat.le_refl _) _, ?_, by omega⟩
    rw [HR.out, isPart]
    cases runes s s.size 0 <;> rfl
  case round =>
    obtain ⟨rfl, pos, fuel, c, rfl, hc, hit, hbw, HT, hfu⟩ := hrel
    by_cases hp : pos < s.size
    · have hnx : ∀ ty, (Instr.next (.pointer (some ⟨w.heap.size, 0, none⟩)) true ty).run Tryd.prog wr = _ := fun ty => Lib.run_next_any_at wr w.heap.size s pos ty hit hp
      have hwd := width_pos s pos hp
      have hd1 := decode_le s pos
      have hit2 := Lib.iterAt_heap wr w.heap.size s pos (pos + (Utf8.decode s pos).2) hit
      have hbw2 := Lib.below_iterAt hbw (k := w.heap.size) (by omega) s (pos + (Utf8.decode s pos).2)
      obtain ⟨f, rfl⟩ : ∃ f, fuel = f + 1 := ⟨fuel - 1, by omega⟩
      by_cases hc16 : c = 16
      · subst hc16
        go_wp2
        go_ret
        have hr : r = false := by
          rw [HT.out]
          cases hok : okc (Utf8.decode s pos).1 with
          | true => rw [runes_ok s f pos hp hok, told_more]; exact told_over s _ _ (by omega)
          | false => rw [runes_bad s f pos hp hok]; rfl
        exact ⟨by rw [hr]; rfl, hbw2⟩
      · cases hok : okc (Utf8.decode s pos).1 with
        | true =>
          have HT2 : Hid (r = told s ((runes s f (pos + (Utf8.decode s pos).2)).map (· + (c + 1)))) := by
            have := HT.out
            rw [runes_ok s f pos hp hok, told_more] at this
            exact this
          go_wp2_with fail
          refine (isOfPart_any _ _).mono ?_
          rintro e w1 ⟨rfl, rfl⟩
          go_wp2
          go_roundw
          case rel => exact ⟨rfl, pos + (Utf8.decode s pos).2, f, c + 1, by go_num, by omega, hit2, hbw2, HT2, by omega⟩
          case measure =>
            simp only [World.iterPos, hit2, hit]
            omega
        | false =>
          have hr : r = false := by
            rw [HT.out, runes_bad s f pos hp hok]; rfl
          go_wp2_with fail
          refine (isOfPart_any _ _).mono ?_
          rintro e w1 ⟨rfl, rfl⟩
          go_wp2
          go_ret
          exact ⟨by rw [hr]; rfl, hbw2⟩
    · have hnx : ∀ ty, (Instr.next (.pointer (some ⟨w.heap.size, 0, none⟩)) true ty).run Tryd.prog wr = _ := fun ty => Lib.run_next_end_at wr w.heap.size s pos ty hit hp
      rw [runes_end s fuel pos hp, told_end s c hc] at HT
      go_wp2
      all_goals
        go_ret
        refine ⟨?_, hbw⟩
        rw [HT.out]
        first
        | (have h1 : decide (1 ≤ c) = true := decide_eq_true (by omega)
           rw [h1, Bool.true_and]
           first | rfl | simp [*])
        | (have h1 : decide (1 ≤ c) = false := decide_eq_false (by omega)
           rw [h1]; rfl)
end Go.Proofs.YtcjkficpiedpfabDoor.Route
