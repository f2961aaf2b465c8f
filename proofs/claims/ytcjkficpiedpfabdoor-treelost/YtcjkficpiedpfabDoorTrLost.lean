/-
  What is left of a tree's chunks without one of them, in plain words.
-/
import Derived.Test.YtcjkficpiedpfabDoorTrRest2
import Derived.Test.YtcjkficpiedpfabDoorTrGood
import Derived.Test.YtcjkficpiedpfabDoorTrUp
import Derived.Test.YtcjkficpiedpfabDoorTrHas
namespace Go.Proofs.YtcjkficpiedpfabDoor.Tree
open Go.RowKit Route Chunk

/-- All chunks of entries, one behind the other. -/
def flatK (L : List (ByteArray × Int × List ByteArray)) : List ByteArray := L.flatMap (·.2.2)

theorem flatK_len {n : Nat} {L : List (ByteArray × Int × List ByteArray)} (h : EntsOk n L) (i : Nat) : (flatK (L.take i)).length ≤ 1200 * 100 := by
  have key : ∀ l : List (ByteArray × Int × List ByteArray), (∀ e ∈ l, e.2.2.length ≤ 1200) → (flatK l).length ≤ 1200 * l.length := by
    intro l
    induction l with
    | nil => intro _; simp [flatK]
    | cons e l ih =>
      intro hl
      have h1 := ih (fun x hx => hl x (List.mem_cons_of_mem _ hx))
      have h2 := hl e List.mem_cons_self
      simp only [flatK, List.flatMap_cons, List.length_append, List.length_cons] at *
      omega
  have h1 := key (L.take i) (fun e he => by
    obtain ⟨j, hj, rfl⟩ := List.getElem_of_mem (List.mem_of_mem_take he)
    have := (h.2.2 j (by rw [h.1]; exact hj)).2.1
    rw [ent_at hj] at this
    exact this)
  have h2 : (L.take i).length ≤ 100 := by rw [List.length_take, ← h.1]; have := h.2.1; omega
  have h3 := Nat.mul_le_mul_left 1200 h2
  omega

theorem flatK_all {L : List (ByteArray × Int × List ByteArray)} {j : Nat} (hj : j < L.length) : allIn (flatK L) (entOf L j) := by
  intro k hk
  simp only [flatK, List.mem_flatMap]
  refine ⟨_, ent_mem hj, ?_⟩
  simp [List.getD_eq_getElem?_getD, hk]


/-- Chunks without one. -/
def without (s : ByteArray) (C : List ByteArray) : List ByteArray := C.filter fun x => !decide (x = s)
theorem without_mem {s x : ByteArray} {C : List ByteArray} : x ∈ without s C ↔ x ∈ C ∧ x ≠ s := by simp [without]

/-- The first entry that has it. -/
theorem first_has {L : List (ByteArray × Int × List ByteArray)} {s : ByteArray} (h : s ∈ flatK L) : ∃ i, i < L.length ∧ s ∈ (entOf L i).2.2 ∧ ∀ k, k < i → s ∉ (entOf L k).2.2 := by
  have hex : ∃ i, i < L.length ∧ s ∈ (entOf L i).2.2 := by
    simp only [flatK, List.mem_flatMap] at h
    obtain ⟨e, he, hs⟩ := h
    obtain ⟨i, hi, rfl⟩ := List.getElem_of_mem he
    exact ⟨i, hi, by rw [ent_at hi]; exact hs⟩
  obtain ⟨i, hi⟩ := hex
  induction i using Nat.strongRecOn with
  | _ i ih =>
    by_cases hk : ∃ k, k < i ∧ s ∈ (entOf L k).2.2
    · obtain ⟨k, hk1, hk2⟩ := hk
      exact ih k hk1 ⟨by omega, hk2⟩
    · exact ⟨i, hi.1, hi.2, fun k hk1 hk2 => hk ⟨k, hk1, hk2⟩⟩

theorem all_but {L : List (ByteArray × Int × List ByteArray)} {s : ByteArray} {k : Nat} (hk : k < L.length) (h : s ∉ (entOf L k).2.2) : allIn (without s (flatK L)) (entOf L k) := by
  intro j hj
  refine without_mem.2 ⟨flatK_all hk j hj, fun e => h ?_⟩
  rw [← e]
  simp [List.getD_eq_getElem?_getD, hj]
theorem not_all {L : List (ByteArray × Int × List ByteArray)} {s : ByteArray} {k : Nat} (h : s ∈ (entOf L k).2.2) : ¬ allIn (without s (flatK L)) (entOf L k) := by
  intro ha
  obtain ⟨j, hj, e⟩ := List.getElem_of_mem h
  have := ha j hj
  rw [show (entOf L k).2.2.getD j ByteArray.empty = s from by simp [List.getD_eq_getElem?_getD, hj, e]] at this
  exact (without_mem.1 this).2 rfl
theorem without_step {s : ByteArray} {C : List ByteArray} {j : Nat} (hj : j < C.length) : without s (C.take (j + 1)) = without s (C.take j) ++ (if C.getD j ByteArray.empty = s then [] else [C.getD j ByteArray.empty]) := by
  rw [List.take_succ_eq_append_getElem hj]
  have e : C.getD j ByteArray.empty = C[j] := by simp [List.getD_eq_getElem?_getD, hj]
  rw [e]
  unfold without
  rw [List.filter_append]
  by_cases h : C[j] = s
  · rw [if_pos h, List.filter_cons_of_neg (by simp [h]), List.filter_nil]
  · rw [if_neg h, List.filter_cons_of_pos (by simp [h]), List.filter_nil]
theorem key_size {n : Nat} {L : List (ByteArray × Int × List ByteArray)} {s : ByteArray} (h : EntsOk n L) (hs : s ∈ flatK L) : s.size ≤ maxLen := by
  simp only [flatK, List.mem_flatMap] at hs
  obtain ⟨e, he, hse⟩ := hs
  obtain ⟨i, hi, rfl⟩ := List.getElem_of_mem he
  have h3 := (h.2.2 i (by rw [h.1]; exact hi)).2.2
  rw [ent_at hi] at h3
  obtain ⟨k, hk, rfl⟩ := List.getElem_of_mem hse
  have := h3 k hk
  simp [List.getD_eq_getElem?_getD, hk] at this
  unfold maxLen
  omega
theorem without_len (s : ByteArray) (C : List ByteArray) : (without s C).length ≤ C.length := List.length_filter_le _ _
end Go.Proofs.YtcjkficpiedpfabDoor.Tree
