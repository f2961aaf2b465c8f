/-
  One snapshot less: the library's Delete over the catalog's row.
-/
import Derived.Test.YtlpgdfdadkljfaaMgF
import Derived.Deep.RegionLaw
namespace Go.Proofs.Ytlpgdfdadkljfaa.Cat
open Go.RowKit Route Tree

theorem zero52 (w : World) : (zeroValue 52).run Try.prog w = .ok (.agg #[.int .i64 0, .string ⟨#[]⟩, .bool false, .slice none 0 0]) w := by kernel_rfl

/-- The cells of one that isn't there any more. -/
def gone4 : List Value := [.int .i64 0, .string ⟨#[]⟩, .bool false, .slice none 0 0]
theorem gone4_is : (Builtin.zeroCells (Value.agg #[.int .i64 0, .string ⟨#[]⟩, .bool false, .slice none 0 0]).cells 1).toList = gone4 := by first | kernel_rfl | decide | simp [Builtin.zeroCells, Value.cells, gone4, Array.range]

theorem scells_one (Z : List SZ) : ∀ u ∈ scells Z, u.oneCell' = true := by
  intro u hu
  simp only [scells, List.mem_flatMap] at hu
  obtain ⟨z, _, hu⟩ := hu
  simp [encS] at hu
  rcases hu with rfl | rfl | rfl | rfl
  · rfl
  · rfl
  · rfl
  · exact fix_one _

theorem scells_drop (Z : List SZ) (i : Nat) : scells (Z.drop i) = (scells Z).drop (i * 4) := by
  have h : scells Z = scells (Z.take i) ++ scells (Z.drop i) := by rw [← scells_app, List.take_append_drop]
  by_cases hi : i ≤ Z.length
  · rw [h, List.drop_left' (by rw [scells_len, List.length_take, Nat.min_eq_left hi])]
  · rw [List.drop_eq_nil_of_le (by omega), List.drop_eq_nil_of_le (by rw [scells_len]; omega)]
    rfl
theorem scells_take (Z : List SZ) (i : Nat) : scells (Z.take i) = (scells Z).take (i * 4) := by
  have h : scells Z = scells (Z.take i) ++ scells (Z.drop i) := by rw [← scells_app, List.take_append_drop]
  by_cases hi : i ≤ Z.length
  · rw [h, List.take_left' (by rw [scells_len, List.length_take, Nat.min_eq_left hi])]
  · rw [List.take_of_length_le (by omega), List.take_of_length_le (by rw [scells_len]; omega)]

theorem erase_cells (Z : List SZ) (i : Nat) : scells (Z.eraseIdx i) = (scells Z).take (i * 4) ++ (scells Z).drop ((i + 1) * 4) := by
  rw [List.eraseIdx_eq_take_drop_succ, scells_app, scells_take, scells_drop]
end Go.Proofs.Ytlpgdfdadkljfaa.Cat
