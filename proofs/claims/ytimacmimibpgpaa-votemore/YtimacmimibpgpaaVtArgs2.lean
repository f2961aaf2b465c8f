/-
  What the laws' walks are told of one vote, and of texts, that came in.
-/
import Derived.Test.YtimacmimibpgpaaVtArgs
import Derived.Lib.SmallJoins
namespace Go.Proofs.Ytimacmimibpgpaa
open Go.ChangeShapes Go.WideShapes Go.ChangeAt Go.RowKit Go.Deep Go.Joins Vote

/-- A vote that came in. -/
theorem vote_in {H : Type} {enc : TypeId × Value → H} {W : World} {v : Value} {d : DataW H} {p : List MemPlace} {b0 : Nat} (hv : Value.okWide Try.prog W .any b0 31 v)
    (h : DataW.Trod enc Try.prog W 0 (fun _ => true) true 31 v d p) (hw : ∀ n ∈ d.weights Try.prog 31, n ≤ reachBytes) : ∃ (f : Int) (s : ByteArray), v = .agg #[.int .i64 f, .string s] ∧ VOk (f, s) := by
  obtain ⟨c0, c1, y0, y1, n, rfl, rfl, _, t0, t1⟩ := open_agg2 Try.underlying31 (by kernel_rfl) cells31 hv h
  obtain ⟨f, e0, _, hwf⟩ := DataW.trod_int Try.underlying3 t0
  obtain ⟨s, e1, hd1, _⟩ := DataW.trod_string Try.underlying9 t1
  simp only [List.cons.injEq, and_true] at e0 e1
  subst e0; subst e1
  refine ⟨f, s, rfl, hwf, reach48 (hw _ ?_)⟩
  rw [hd1]
  simp [DataW.weights, Try.underlying31, DataW.weightsEach]

/-- Texts that lie at an address. -/
def LiesT (w : World) (a : Option Addr) (l : List ByteArray) : Prop := l = [] ∨ ∃ x, a = some x ∧ ∀ j, j < l.length → w.cell? (x.add j) = some (.string (l.getD j ByteArray.empty))

theorem weights_texts {H : Type} {l : List ByteArray} {s : ByteArray} (h : s ∈ l) : s.size ∈ DataW.weightsAll Try.prog 9 (l.map fun s => (DataW.lit (.string s.data.toList) : DataW H)) :=
  weights_all (d := .lit (.string s.data.toList)) (List.mem_map.2 ⟨s, h, rfl⟩) (by simp [DataW.weights])

/-- A slice of texts that came in. -/
theorem texts_in {H : Type} {enc : TypeId × Value → H} {W : World} {a : Option Addr} {len cap : Nat} {d : DataW H} {p : List MemPlace}
    (h : DataW.Trod enc Try.prog W 0 (fun _ => true) true 35 (Value.slice a len cap) d p) (hw : ∀ n ∈ d.weights Try.prog 35, n ≤ reachBytes) :
    ∃ l : List ByteArray, len = l.length ∧ LiesT W a l ∧ (∀ s ∈ l, s.size ≤ 281474976710656) ∧ len ≤ 9223372036854775807 := by
  obtain ⟨fuel, hf⟩ := h
  rcases open_strings Try.underlying35 Try.underlying9 (by kernel_rfl) hf with ⟨hcs, _⟩ | ⟨x, l', c, ss, hcs, _, hl, hm, hz, hd, hcell, _⟩
  · simp [Value.cells] at hcs
    obtain ⟨rfl, rfl, rfl⟩ := hcs
    exact ⟨[], rfl, Or.inl rfl, fun s hs => by simp at hs, Nat.zero_le _⟩
  · simp [Value.cells] at hcs
    obtain ⟨rfl, rfl, rfl⟩ := hcs
    have hz' : ss.length = cap := by simpa using hz
    simp only [Prod.mk.injEq] at hd
    refine ⟨ss.take len, by simp; omega, Or.inr ⟨x, rfl, fun j hj => ?_⟩, fun s hs => reach48 (hw _ ?_), Nat.le_trans hl hm⟩
    · rw [List.length_take] at hj
      rw [hcell j (by omega)]
      simp [List.getD_eq_getElem?_getD, show j < len by omega]
    · rw [hd.1]
      simp only [DataW.weights, Try.underlying35]
      exact List.mem_cons_of_mem _ (List.mem_append_left _ (weights_texts hs))
end Go.Proofs.Ytimacmimibpgpaa
