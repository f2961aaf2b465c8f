/-
  The contract of the answer's Has.
-/
import Derived.Test.YtejhnobhpjlkaaaCtDeed
namespace Go.Proofs.Ytejhnobhpjlkaaa.Tree
open Go.RowKit Route

theorem mem_getD {C : List ByteArray} {s : ByteArray} : s ∈ C ↔ ∃ j, j < C.length ∧ C.getD j ByteArray.empty = s := by
  rw [List.mem_iff_getElem]
  constructor
  · rintro ⟨j, hj, e⟩
    exact ⟨j, hj, by simp [List.getD_eq_getElem?_getD, hj, e]⟩
  · rintro ⟨j, hj, e⟩
    exact ⟨j, hj, by simpa [List.getD_eq_getElem?_getD, hj] using e⟩

/-- Is a text among some? -/
def inB (C : List ByteArray) (s : ByteArray) : Bool := C.any fun x => decide (x = s)
theorem inB_iff {C : List ByteArray} {s : ByteArray} : inB C s = true ↔ s ∈ C := by
  simp [inB]
theorem inB_no {C : List ByteArray} {s : ByteArray} (h : s ∉ C) : inB C s = false := by
  cases e : inB C s with
  | false => rfl
  | true => exact absurd (inB_iff.1 e) h

set_option maxHeartbeats 4000000 in
set_option maxRecDepth 100000 in
theorem has_any (a : Option Addr) (n cap : Nat) (C : List ByteArray) (s : ByteArray) (w : World) (hn0 : n = C.length) (hl0 : Lies w a C) (hnm : n ≤ 1000000) :
    Calls Try.prog 13 #[.slice a n cap, .string s] w fun e w' => e = .returned (.bool (inB C s)) ∧ w' = w := by
  have HN : Hid (n = C.length) := hn0
  have HL : Hid (Lies w a C) := hl0
  obtain ⟨r, hr⟩ : ∃ r, r = inB C s := ⟨_, rfl⟩
  have HR : Hid (r = inB C s) := hr
  rw [← hr]
  clear hn0 hl0 hr
  go_enter Try.func13, Try.ntmps13
  go_wp2
  go_loop [4, 5] (fun t4 t5 => ∃ (i : Nat), t4 = .bool false ∧ t5 = .int .i64 (i : Int) ∧ i ≤ n ∧ Hid (∀ j, j < i → C.getD j ByteArray.empty ≠ s)) (fun _ t5 => n - (intOf t5).toNat)
  case atStart => exact ⟨0, rfl, rfl, Nat.zero_le _, fun j hj => by omega⟩
  case round =>
    obtain ⟨i, rfl, rfl, hi, HI⟩ := hrel
    by_cases hin : i < n
    · obtain ⟨x, hx, hc⟩ := HL.out.cellAt (j := i) (by rw [← HN.out]; exact hin)
      subst hx
      have HE : Hid (C.getD i ByteArray.empty = s → r = true) := fun e => by
        rw [HR.out]; exact inB_iff.2 (mem_getD.2 ⟨i, by rw [← HN.out]; exact hin, e⟩)
      have HNx : Hid (C.getD i ByteArray.empty ≠ s → ∀ j, j < i + 1 → C.getD j ByteArray.empty ≠ s) := fun e j hj => by
        by_cases hji : j = i
        · subst hji; exact e
        · exact HI.out j (by omega)
      generalize C.getD i ByteArray.empty = k at hc HE HNx
      by_cases hks : k = s
      · have hd : (k.toList == s.toList) = true := by rw [str_eq, decide_eq_true hks]
        have hr : r = true := HE.out hks
        clear hks
        go_wp2
        go_ret
        exact ⟨by first | rfl | (rw [hr]; rfl), rfl⟩
      · have hd := ne_text hks
        have HN2 : Hid (∀ j, j < i + 1 → C.getD j ByteArray.empty ≠ s) := HNx.out hks
        clear hks
        go_wp2
        go_round
        case rel => exact ⟨i + 1, rfl, by go_num, by omega, HN2⟩
        case measure => simp [intOf]; omega
    · have hr : r = false := by
        rw [HR.out]
        refine inB_no fun h => ?_
        obtain ⟨j, hj, e⟩ := mem_getD.1 h
        exact HI.out j (by have := HN.out; omega) e
      go_wp2
      go_ret
      exact ⟨by first | rfl | (rw [hr]; rfl), rfl⟩
end Go.Proofs.Ytejhnobhpjlkaaa.Tree
