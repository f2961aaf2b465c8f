/-
  What the walks are told of the arguments: cuts and lists of texts that came in.
-/
import Derived.Test.YtgnkkenkambokaaChLeaf
import Derived.ProofKit
import Derived.OpenShut
import Derived.ShutString
import Derived.ChangeOld
import Derived.Below
import Derived.SliceStrings
namespace Go.Proofs.Ytgnkkenkambokaa
open Go.ChangeShapes Go.WideShapes Go.ChangeAt Go.RowKit Route Chunk

theorem own : ownKnob Try.prog.godebug = none := by kernel_rfl
theorem laidOut : laidOutB Try.prog = true := by kernel_rfl

/-- A slice of texts that came in. -/
theorem texts_in {H : Type} {enc : TypeId × Value → H} {W : World} {a : Option Addr} {len cap : Nat} {d : DataW H} {p : List MemPlace}
    (h : DataW.Trod enc Try.prog W 0 (fun _ => true) true 24 (Value.slice a len cap) d p) :
    ∃ l : List ByteArray, len = l.length ∧ Lies W a l ∧ len ≤ cap ∧ cap ≤ maxLen ∧ (a = none → cap = 0) ∧ ∀ s ∈ l, s.size ≤ maxLen := by
  obtain ⟨fuel, hf⟩ := h
  rcases open_strings Try.underlying24 Try.underlying9 (by kernel_rfl) hf with ⟨hcs, _⟩ | ⟨x, l', c, ss, hcs, _, hl, hm, hz, _, hcell, hwz⟩
  · simp [Value.cells] at hcs
    obtain ⟨rfl, rfl, rfl⟩ := hcs
    exact ⟨[], rfl, Or.inl rfl, Nat.le_refl _, Nat.zero_le _, fun _ => rfl, fun s hs => by simp at hs⟩
  · simp [Value.cells] at hcs
    obtain ⟨rfl, rfl, rfl⟩ := hcs
    have hz' : ss.length = cap := by simpa using hz
    refine ⟨ss.take len, by simp; omega, Or.inr ⟨x, rfl, fun j hj => ?_⟩, hl, hm, fun h => (by cases h), fun s hs => hwz s (List.mem_of_mem_take hs)⟩
    rw [List.length_take] at hj
    rw [hcell j (by omega)]
    simp [List.getD_eq_getElem?_getD, show j < len by omega]

/-- A cut that came in. -/
theorem cut_in {H : Type} {enc : TypeId × Value → H} {W : World} {v : Value} {d : DataW H} {p : List MemPlace}
    {b0 : Nat} (hv : Value.okWide Try.prog W .any b0 23 v) (h : DataW.Trod enc Try.prog W 0 (fun _ => true) true 23 v d p) :
    ∃ mn mx mk : Int, v = cutV mn mx mk := by
  obtain ⟨cs, rfl, hcs⟩ := okWide_struct Try.underlying23 hv
  obtain ⟨fuel, hf⟩ := h
  have hn : Try.prog.cellsOf 23 = 3 := by kernel_rfl
  have h1 : Try.prog.cellsOf 3 = 1 := by kernel_rfl
  obtain ⟨xs, n, _, _, _, hxl, hfs⟩ := DataW.trod_struct Try.underlying23 hf
  rw [hn] at hcs
  obtain ⟨l⟩ := cs
  match l, hcs with
  | [c0, c1, c2], _ =>
    have g0 : DataW.trod enc Try.prog W 0 (fun _ => true) true n 3 (([c0, c1, c2].drop 0).take (Try.prog.cellsOf 3)) = xs[0]? := hfs 0 _ rfl
    have g1 : DataW.trod enc Try.prog W 0 (fun _ => true) true n 3 (([c0, c1, c2].drop 1).take (Try.prog.cellsOf 3)) = xs[1]? := hfs 1 _ rfl
    have g2 : DataW.trod enc Try.prog W 0 (fun _ => true) true n 3 (([c0, c1, c2].drop 2).take (Try.prog.cellsOf 3)) = xs[2]? := hfs 2 _ rfl
    rw [h1] at g0 g1 g2
    have x0 : ∃ x, xs[0]? = some x := ⟨_, List.getElem?_eq_getElem (by rw [hxl]; decide)⟩
    have x1 : ∃ x, xs[1]? = some x := ⟨_, List.getElem?_eq_getElem (by rw [hxl]; decide)⟩
    have x2 : ∃ x, xs[2]? = some x := ⟨_, List.getElem?_eq_getElem (by rw [hxl]; decide)⟩
    obtain ⟨y0, e0⟩ := x0
    obtain ⟨y1, e1⟩ := x1
    obtain ⟨y2, e2⟩ := x2
    obtain ⟨n0, k0, _⟩ := DataW.trod_int Try.underlying3 (g0.trans e0)
    obtain ⟨n1, k1, _⟩ := DataW.trod_int Try.underlying3 (g1.trans e1)
    obtain ⟨n2, k2, _⟩ := DataW.trod_int Try.underlying3 (g2.trans e2)
    simp at k0 k1 k2
    subst k0; subst k1; subst k2
    exact ⟨n0, n1, n2, rfl⟩
end Go.Proofs.Ytgnkkenkambokaa
