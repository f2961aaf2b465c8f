/-
  What the walks are told of the arguments: requests that came in.
-/
import Derived.Test.YtanlanolblbckaaArgs
import Derived.Test.YtanlanolblbckaaOrLaw
import Derived.SliceStrings
namespace Go.Proofs.Ytanlanolblbckaa
open Go.ChangeShapes Go.WideShapes Go.ChangeAt Go.RowKit Order

/-- A request that came in. -/
theorem req_in {H : Type} {enc : TypeId × Value → H} {W : World} {v : Value} {d : DataW H} {p : List MemPlace}
    {b0 : Nat} (hv : Value.okWide Try.prog W .any b0 26 v) (h : DataW.Trod enc Try.prog W 0 (fun _ => true) true 26 v d p) :
    ∃ (r : Rq) (a : Option Addr) (kn cap : Nat), v = .agg (rv r a kn cap) ∧ ReqAt W a kn cap r := by
  obtain ⟨cs, rfl, hcs⟩ := okWide_struct Try.underlying26 hv
  obtain ⟨fuel, hf⟩ := h
  have n26 : Try.prog.cellsOf 26 = 7 := by kernel_rfl
  have n24 : Try.prog.cellsOf 24 = 5 := by kernel_rfl
  have n3 : Try.prog.cellsOf 3 = 1 := by kernel_rfl
  have n9 : Try.prog.cellsOf 9 = 1 := by kernel_rfl
  have n22 : Try.prog.cellsOf 22 = 1 := by kernel_rfl
  obtain ⟨xs, n, _, _, _, hxl, hfs⟩ := DataW.trod_struct Try.underlying26 hf
  rw [n26] at hcs
  obtain ⟨l⟩ := cs
  match l, hcs with
  | [c0, c1, c2, c3, c4, c5, c6], _ =>
    have g0 : DataW.trod enc Try.prog W 0 (fun _ => true) true n 3 (([c0, c1, c2, c3, c4, c5, c6].drop 0).take (Try.prog.cellsOf 3)) = xs[0]? := hfs 0 _ rfl
    have g1 : DataW.trod enc Try.prog W 0 (fun _ => true) true n 3 (([c0, c1, c2, c3, c4, c5, c6].drop 1).take (Try.prog.cellsOf 3)) = xs[1]? := hfs 1 _ rfl
    have g2 : DataW.trod enc Try.prog W 0 (fun _ => true) true n 24 (([c0, c1, c2, c3, c4, c5, c6].drop 2).take (Try.prog.cellsOf 24)) = xs[2]? := hfs 2 _ rfl
    rw [n3] at g0 g1
    rw [n24] at g2
    obtain ⟨y0, e0⟩ : ∃ x, xs[0]? = some x := ⟨_, List.getElem?_eq_getElem (by rw [hxl]; decide)⟩
    obtain ⟨y1, e1⟩ : ∃ x, xs[1]? = some x := ⟨_, List.getElem?_eq_getElem (by rw [hxl]; decide)⟩
    obtain ⟨y2, e2⟩ : ∃ x, xs[2]? = some x := ⟨_, List.getElem?_eq_getElem (by rw [hxl]; decide)⟩
    obtain ⟨z0, k0, _, _⟩ := DataW.trod_int Try.underlying3 (g0.trans e0)
    obtain ⟨z1, k1, _, _⟩ := DataW.trod_int Try.underlying3 (g1.trans e1)
    obtain ⟨ys, m, _, _, _, hyl, hgs⟩ := DataW.trod_struct Try.underlying24 (g2.trans e2)
    have i0 : DataW.trod enc Try.prog W 0 (fun _ => true) true m 3 (([c2, c3, c4, c5, c6].drop 0).take (Try.prog.cellsOf 3)) = ys[0]? := hgs 0 _ rfl
    have i1 : DataW.trod enc Try.prog W 0 (fun _ => true) true m 9 (([c2, c3, c4, c5, c6].drop 1).take (Try.prog.cellsOf 9)) = ys[1]? := hgs 1 _ rfl
    have i2 : DataW.trod enc Try.prog W 0 (fun _ => true) true m 9 (([c2, c3, c4, c5, c6].drop 2).take (Try.prog.cellsOf 9)) = ys[2]? := hgs 2 _ rfl
    have i3 : DataW.trod enc Try.prog W 0 (fun _ => true) true m 22 (([c2, c3, c4, c5, c6].drop 3).take (Try.prog.cellsOf 22)) = ys[3]? := hgs 3 _ rfl
    have i4 : DataW.trod enc Try.prog W 0 (fun _ => true) true m 3 (([c2, c3, c4, c5, c6].drop 4).take (Try.prog.cellsOf 3)) = ys[4]? := hgs 4 _ rfl
    rw [n3] at i0 i4
    rw [n9] at i1 i2
    rw [n22] at i3
    obtain ⟨v0, f0⟩ : ∃ x, ys[0]? = some x := ⟨_, List.getElem?_eq_getElem (by rw [hyl]; decide)⟩
    obtain ⟨v1, f1⟩ : ∃ x, ys[1]? = some x := ⟨_, List.getElem?_eq_getElem (by rw [hyl]; decide)⟩
    obtain ⟨v2, f2⟩ : ∃ x, ys[2]? = some x := ⟨_, List.getElem?_eq_getElem (by rw [hyl]; decide)⟩
    obtain ⟨v3, f3⟩ : ∃ x, ys[3]? = some x := ⟨_, List.getElem?_eq_getElem (by rw [hyl]; decide)⟩
    obtain ⟨v4, f4⟩ : ∃ x, ys[4]? = some x := ⟨_, List.getElem?_eq_getElem (by rw [hyl]; decide)⟩
    obtain ⟨q0, p0, _, _⟩ := DataW.trod_int Try.underlying3 (i0.trans f0)
    obtain ⟨q1, p1, _, s1⟩ := DataW.trod_string Try.underlying9 (i1.trans f1)
    obtain ⟨q2, p2, _, s2⟩ := DataW.trod_string Try.underlying9 (i2.trans f2)
    obtain ⟨q4, p4, _, _⟩ := DataW.trod_int Try.underlying3 (i4.trans f4)
    simp at k0 k1 p0 p1 p2 p4
    subst k0; subst k1; subst p0; subst p1; subst p2; subst p4
    have i3' : DataW.trod enc Try.prog W 0 (fun _ => true) true m 22 [c5] = some v3 := i3.trans f3
    rcases open_strings Try.underlying22 Try.underlying9 n9 i3' with ⟨hcs, _⟩ | ⟨y, l', c, ss, hcs, _, hl, hm, hz, _, hcell, hwz⟩
    · simp only [List.cons.injEq, and_true] at hcs
      subst hcs
      exact ⟨⟨z0, z1, q0, q4, q1, q2, []⟩, none, 0, 0, rfl, rfl, .inl rfl, s1, s2, Nat.le_refl _, Nat.zero_le _, fun s hs => (by cases hs), fun _ => rfl⟩
    · simp only [List.cons.injEq, and_true] at hcs
      subst hcs
      have hz' : ss.length = c := by simpa using hz
      have hl2 : (ss.take l').length = l' := by rw [List.length_take]; omega
      refine ⟨⟨z0, z1, q0, q4, q1, q2, ss.take l'⟩, some y, l', c, rfl, hl2.symm, .inr ⟨y, rfl, fun j hj => ?_⟩, s1, s2, hl, hm, fun s hs => hwz s (List.mem_of_mem_take hs), fun h => by cases h⟩
      have hj' : j < l' := by have : j < (ss.take l').length := hj; omega
      rw [hcell j (by omega)]
      simp [List.getD_eq_getElem?_getD, hj']
end Go.Proofs.Ytanlanolblbckaa
