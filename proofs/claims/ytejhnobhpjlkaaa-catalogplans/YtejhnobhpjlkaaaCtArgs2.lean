/-
  What the laws' walks are told of lists of texts that came in.
-/
import Derived.Test.YtejhnobhpjlkaaaCtArgs
namespace Go.Proofs.Ytejhnobhpjlkaaa
open Go.ChangeShapes Go.WideShapes Go.ChangeAt Go.RowKit Route

/-- A slice of texts that came in. -/
theorem texts_in {H : Type} {enc : TypeId × Value → H} {W : World} {a : Option Addr} {len cap : Nat} {d : DataW H} {p : List MemPlace}
    (h : DataW.Trod enc Try.prog W 0 (fun _ => true) true 27 (Value.slice a len cap) d p) :
    ∃ l : List ByteArray, len = l.length ∧ Lies W a l ∧ len ≤ cap ∧ cap ≤ maxLen ∧ (a = none → cap = 0) ∧ ∀ s ∈ l, s.size ≤ maxLen := by
  obtain ⟨fuel, hf⟩ := h
  rcases open_strings Try.underlying27 Try.underlying9 (by kernel_rfl) hf with ⟨hcs, _⟩ | ⟨x, l', c, ss, hcs, _, hl, hm, hz, _, hcell, hwz⟩
  · simp [Value.cells] at hcs
    obtain ⟨rfl, rfl, rfl⟩ := hcs
    exact ⟨[], rfl, Or.inl rfl, Nat.le_refl _, Nat.zero_le _, fun _ => rfl, fun s hs => by simp at hs⟩
  · simp [Value.cells] at hcs
    obtain ⟨rfl, rfl, rfl⟩ := hcs
    have hz' : ss.length = cap := by simpa using hz
    refine ⟨ss.take len, by simp; omega, Or.inr ⟨x, rfl, fun j hj => ?_⟩, hl, hm, fun h => (by cases h), fun s hs => hwz s (List.mem_of_mem_take hs)⟩
    rw [List.length_take] at hj
    rw [hcell j (by omega)]
    simp [List.getD_eq_getElem?_getD, show j < len by omega]
end Go.Proofs.Ytejhnobhpjlkaaa
