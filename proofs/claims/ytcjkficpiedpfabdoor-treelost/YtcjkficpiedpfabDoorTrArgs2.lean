/-
  What the walks are told of cuts, of lists of texts and of a file that came in.
-/
import Derived.Test.YtcjkficpiedpfabDoorTrArgs
namespace Go.Proofs.YtcjkficpiedpfabDoor
open Go.ChangeShapes Go.WideShapes Go.ChangeAt Go.RowKit Go.Deep Route Chunk Tree

set_option maxRecDepth 100000 in
/-- A cut that came in. -/
theorem cut_in {H : Type} {enc : TypeId × Value → H} {W : World} {v : Value} {d : DataW H} {p : List MemPlace}
    {b0 : Nat} (hv : Value.okWide Tryd.prog W .any b0 26 v) (h : DataW.Trod enc Tryd.prog W 0 (fun _ => true) true 26 v d p) :
    ∃ mn mx mk : Int, v = cutV mn mx mk := by
  obtain ⟨cs, rfl, hcs⟩ := okWide_struct Tryd.underlying26 hv
  obtain ⟨fuel, hf⟩ := h
  have hn : Tryd.prog.cellsOf 26 = 3 := by kernel_rfl
  have h1 : Tryd.prog.cellsOf 3 = 1 := by kernel_rfl
  obtain ⟨xs, n, _, _, _, hxl, hfs⟩ := DataW.trod_struct Tryd.underlying26 hf
  rw [hn] at hcs
  obtain ⟨l⟩ := cs
  match l, hcs with
  | [c0, c1, c2], _ =>
    have g0 : DataW.trod enc Tryd.prog W 0 (fun _ => true) true n 3 (([c0, c1, c2].drop 0).take (Tryd.prog.cellsOf 3)) = xs[0]? := hfs 0 _ rfl
    have g1 : DataW.trod enc Tryd.prog W 0 (fun _ => true) true n 3 (([c0, c1, c2].drop 1).take (Tryd.prog.cellsOf 3)) = xs[1]? := hfs 1 _ rfl
    have g2 : DataW.trod enc Tryd.prog W 0 (fun _ => true) true n 3 (([c0, c1, c2].drop 2).take (Tryd.prog.cellsOf 3)) = xs[2]? := hfs 2 _ rfl
    rw [h1] at g0 g1 g2
    obtain ⟨y0, e0⟩ : ∃ x, xs[0]? = some x := ⟨_, List.getElem?_eq_getElem (by rw [hxl]; decide)⟩
    obtain ⟨y1, e1⟩ : ∃ x, xs[1]? = some x := ⟨_, List.getElem?_eq_getElem (by rw [hxl]; decide)⟩
    obtain ⟨y2, e2⟩ : ∃ x, xs[2]? = some x := ⟨_, List.getElem?_eq_getElem (by rw [hxl]; decide)⟩
    obtain ⟨n0, k0, _⟩ := DataW.trod_int Tryd.underlying3 (g0.trans e0)
    obtain ⟨n1, k1, _⟩ := DataW.trod_int Tryd.underlying3 (g1.trans e1)
    obtain ⟨n2, k2, _⟩ := DataW.trod_int Tryd.underlying3 (g2.trans e2)
    simp at k0 k1 k2
    subst k0; subst k1; subst k2
    exact ⟨n0, n1, n2, rfl⟩
end Go.Proofs.YtcjkficpiedpfabDoor
